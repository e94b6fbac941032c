/- A law on regions that draw their order, over any program: reads, callees that only make memory, new blocks, whole stores into new blocks, and calls that turn memory in a forced order; all of the region is listed, there is no tail. What holds of the memory is told by stages: a stage more for each call that turns it. -/
import Derived.Test.YtfomhdhiibcdfaaGreatPart1
namespace Go.Proofs.YtfomhdhiibcdfaaGreat.More
open Go.RowKit Go.Sort

namespace Draw

/-- Nothing but one block has turned. -/
structure Only (b : Nat) (w w' : World) : Prop where
  os : w'.os = w.os
  tape : w'.tape = w.tape
  output : w'.output = w.output
  size : w'.heap.size = w.heap.size
  block : ∀ k, k ≠ b → w'.heap[k]? = w.heap[k]?

theorem Only.set (b : Nat) (w : World) (o : Nat) (v : Value) : Only b w (w.setCell ⟨b, o, none⟩ v) := ⟨rfl, rfl, rfl, by simp [World.setCell], fun k hk => Below.heap_setCell _ _ _ k hk⟩
theorem Only.trans {b : Nat} {w w' w'' : World} (h : Only b w w') (k : Only b w' w'') : Only b w w'' :=
  ⟨k.os.trans h.os, k.tape.trans h.tape, k.output.trans h.output, k.size.trans h.size, fun j hj => (k.block j hj).trans (h.block j hj)⟩
theorem Only.below {b B : Nat} {w0 w w' : World} (k : Below B w0 w) (h : Only b w w') (hb : B ≤ b) : Below B w0 w' :=
  ⟨h.os.trans k.os, h.tape.trans k.tape, h.output.trans k.output, by rw [h.size]; exact k.size, fun j hj => (h.block j (by omega)).trans (k.block j hj)⟩

/-- What an operation leaves: a value, a new block, a slice of a new block, all of a block written anew, the value of the call that turns memory for the s-th time, a value ahead of the t-th turn, or nothing, as its guard says no. -/
inductive Leave where
  | val (v : Value)
  | box (o : Obj)
  | row (o : Obj) (n c : Nat)
  | put (k : Nat) (o : Obj)
  | turn (s : Nat) (v : Value)
  | early (t : Nat) (v : Value)
  | skip

def Leave.value (y : Leave) (g : Nat) : Value := match y with
  | .val v => v
  | .box _ => .pointer (some ⟨g, 0, none⟩)
  | .row _ n c => .slice (some ⟨g, 0, none⟩) n c
  | .put _ _ => undef
  | .turn _ v => v
  | .early _ v => v
  | .skip => undef
def Leave.obj : Leave → Option Obj
  | .box o => some o
  | .row o _ _ => some o
  | _ => none
def Leave.isSkip : Leave → Bool
  | .skip => true
  | _ => false

section
variable {P : Program}

def stays (P : Program) (w : World) (v : Value) : Result Next → Prop
  | .ok (.value u) w' => w' = w ∧ u = v
  | .ok (.enter f args) w' => w' = w ∧ Calls P f args w (fun e w'' => e = .returned v ∧ Below w.heap.size w w'')
  | _ => False

theorem stays_call {w : World} {v : Value} {f : FuncId} {args : Array Value} (h : Calls P f args w (fun e w'' => e = .returned v ∧ Below w.heap.size w w'')) : stays P w v (.ok (.enter f args) w) := ⟨rfl, h⟩

def turnsTo (P : Program) (K : Nat → World → (Nat → Prop) → Prop) (w : World) (G : Nat → Prop) (s : Nat) (v : Value) : Result Next → Prop
  | .ok (.enter f args) w' => w' = w ∧ Calls P f args w (fun e w'' => e = .returned v ∧ K (s + 1) w'' G ∧ w.heap.size ≤ w''.heap.size ∧ ∀ k, G k → w''.heap[k]? = w.heap[k]?)
  | .ok .skip w'' => v = undef ∧ K (s + 1) w'' G ∧ w.heap.size ≤ w''.heap.size ∧ ∀ k, G k → w''.heap[k]? = w.heap[k]?
  | .ok (.value u) w'' => u = v ∧ K (s + 1) w'' G ∧ w.heap.size ≤ w''.heap.size ∧ ∀ k, G k → w''.heap[k]? = w.heap[k]?
  | _ => False

theorem turns_call {K : Nat → World → (Nat → Prop) → Prop} {w : World} {G : Nat → Prop} {s : Nat} {v : Value} {f : FuncId} {args : Array Value}
    (h : Calls P f args w (fun e w'' => e = .returned v ∧ K (s + 1) w'' G ∧ w.heap.size ≤ w''.heap.size ∧ ∀ k, G k → w''.heap[k]? = w.heap[k]?)) : turnsTo P K w G s v (.ok (.enter f args) w) := ⟨rfl, h⟩

/-- What a store leaves. -/
def stored (w' : World) : Result Next → Prop
  | .ok .skip w'' => w'' = w'
  | _ => False

/-- The frame with all that was left. -/
def fill (g : Nat → Nat) : Nat → List Oper → List Leave → Act → Act
  | k, o :: os, y :: ys, a => fill g (k + 1) os ys (a.put o.dst (y.value (g k)))
  | _, _, _, a => a

/-- What is known of the blocks that an operation waits for, if they are not written anew. -/
def known (ys : List Leave) (o : Oper) (W : World) (g : Nat → Nat) (w : World) : Prop :=
  ∀ e ∈ o.after, Region.binds .any e = true → ∀ y b, ys[e.on]? = some y → y.obj = some b → W.heap.size ≤ g e.on ∧ ((∀ (j : Nat) (c : Obj), ys[j]? ≠ some (Leave.put e.on c)) → w.heap[g e.on]? = some b)

def leaves (P : Program) (K : Nat → World → (Nat → Prop) → Prop) (o : Oper) (F : (Nat → Nat) → Act) (ys : List Leave) (W : World) : Leave → Prop
  | .val v => ∀ s g w G, K s w G → known ys o W g w → stays P w v ((execOp (F g).eval o).run P w)
  | .box b => ∀ s g w G, K s w G → known ys o W g w → (execOp (F g).eval o).run P w = .ok (.value (.pointer (some ⟨w.heap.size, 0, none⟩))) (w.alloc b)
  | .row b n c => ∀ s g w G, K s w G → known ys o W g w → (execOp (F g).eval o).run P w = .ok (.value (.slice (some ⟨w.heap.size, 0, none⟩) n c)) (w.alloc b)
  | .put k c => ∀ s g w G, K s w G → ∀ y b, ys[k]? = some y → y.obj = some b → w.heap[g k]? = some b → ∃ w', stored w' ((execOp (F g).eval o).run P w) ∧ w'.heap[g k]? = some c ∧ Only (g k) w w'
  | .turn s v => ∀ g w G, K s w G → known ys o W g w → turnsTo P K w G s v ((execOp (F g).eval o).run P w)
  | .early t v => ∀ s g w G, s ≤ t → K s w G → known ys o W g w → stays P w v ((execOp (F g).eval o).run P w)
  | .skip => True

def allLeave (P : Program) (K : Nat → World → (Nat → Prop) → Prop) (F : (Nat → Nat) → Act) (all : List Leave) (W : World) : List Oper → List Leave → Prop
  | o :: os, y :: ys => leaves P K o F all W y ∧ allLeave P K F all W os ys
  | _, _ => True

variable {K : Nat → World → (Nat → Prop) → Prop}

theorem allLeave_at {F : (Nat → Nat) → Act} {all : List Leave} {W : World} : ∀ {os : List Oper} {ys : List Leave} {i : Nat} {o : Oper} {y : Leave}, allLeave P K F all W os ys → os[i]? = some o → ys[i]? = some y → leaves P K o F all W y
  | o :: os, y :: ys, 0, _, _, h, h1, h2 => by
    simp only [List.getElem?_cons_zero, Option.some.injEq] at h1 h2; subst h1 h2; exact h.1
  | o :: os, y :: ys, i + 1, _, _, h, h1, h2 => by
    simp only [List.getElem?_cons_succ] at h1 h2; exact allLeave_at h.2 h1 h2
  | [], _, _, _, _, _, h1, _ => by simp at h1
  | _ :: _, [], _, _, _, _, _, h2 => by simp at h2

theorem put_size (a : Act) (d : Option Tmp) (v : Value) : (a.put d v).tmps.size = a.tmps.size := by cases d <;> simp [Act.put]
theorem put_defers (a : Act) (d : Option Tmp) (v : Value) : (a.put d v).defers = a.defers := by cases d <;> rfl
theorem put_slot (a : Act) (d : Tmp) (v : Value) (h : d < a.tmps.size) : (a.put (some d) v).tmps.getD d undef = v := by simp [Act.put, h]
theorem put_other (a : Act) (d : Option Tmp) (v : Value) (t : Tmp) (h : d ≠ some t) : (a.put d v).tmps.getD t undef = a.tmps.getD t undef := by
  cases d with
  | none => rfl
  | some d =>
    have hne : d ≠ t := fun e => h (by rw [e])
    simp [Act.put, Array.getElem?_setIfInBounds_ne hne]

theorem fill_size (g : Nat → Nat) : ∀ (k : Nat) (os : List Oper) (ys : List Leave) (a : Act), (fill g k os ys a).tmps.size = a.tmps.size
  | k, o :: os, y :: ys, a => by rw [fill, fill_size g (k + 1) os ys, put_size]
  | _, [], _, _ => rfl
  | _, _ :: _, [], _ => rfl
theorem fill_defers (g : Nat → Nat) : ∀ (k : Nat) (os : List Oper) (ys : List Leave) (a : Act), (fill g k os ys a).defers = a.defers
  | k, o :: os, y :: ys, a => by rw [fill, fill_defers g (k + 1) os ys, put_defers]
  | _, [], _, _ => rfl
  | _, _ :: _, [], _ => rfl
theorem fill_other (g : Nat → Nat) (t : Tmp) : ∀ (k : Nat) (os : List Oper) (ys : List Leave) (a : Act), (∀ i o, i < ys.length → os[i]? = some o → o.dst ≠ some t) → (fill g k os ys a).tmps.getD t undef = a.tmps.getD t undef
  | k, o :: os, y :: ys, a, h => by
    rw [fill, fill_other g t (k + 1) os ys _ (fun i o hi ho => h (i + 1) o (by simp; omega) (by simpa using ho)), put_other _ _ _ _ (h 0 o (by simp) rfl)]
  | _, [], _, _, _ => rfl
  | _, _ :: _, [], _, _ => rfl
theorem fill_slot (g : Nat → Nat) (d : Tmp) : ∀ (k : Nat) (os : List Oper) (ys : List Leave) (a : Act) (i : Nat) (o : Oper) (y : Leave), d < a.tmps.size → os[i]? = some o → ys[i]? = some y → o.dst = some d →
    (∀ j p, j < ys.length → j ≠ i → os[j]? = some p → p.dst ≠ some d) → (fill g k os ys a).tmps.getD d undef = y.value (g (k + i))
  | k, o :: os, y :: ys, a, 0, _, _, hd, ho, hy, hdst, hne => by
    simp only [List.getElem?_cons_zero, Option.some.injEq] at ho hy
    subst ho hy
    rw [fill, fill_other g d (k + 1) os ys _ (fun i p hi hp => hne (i + 1) p (by simp; omega) (by omega) (by simpa using hp)), hdst, put_slot _ _ _ hd]
    rfl
  | k, o :: os, y :: ys, a, i + 1, o', y', hd, ho, hy, hdst, hne => by
    simp only [List.getElem?_cons_succ] at ho hy
    rw [fill, fill_slot g d (k + 1) os ys _ i o' y' (by rw [put_size]; exact hd) ho hy hdst (fun j p hj hji hp => hne (j + 1) p (by simp; omega) (by omega) (by simpa using hp))]
    congr 2
    omega
  | _, [], _, _, _, _, _, _, ho, _, _, _ => by simp at ho
  | _, _ :: _, [], _, _, _, _, _, _, hy, _, _ => by simp at hy

/-- What is asked of a region's text: that each writes a slot of its own, if any, and looks only at what it waits for. -/
def headB (l : List Oper) (n size : Nat) : Bool :=
  (List.range n).all fun i => match l[i]? with
    | none => false
    | some o => (match o.dst with | none => true | some d => decide (d < size)) && (o.after.all fun e => !Region.binds .any e || decide (e.on < i)) &&
      (List.range n).all fun j => match l[j]? with
        | none => false
        | some p => (decide (i = j) || o.dst == none || p.dst != o.dst) &&
          (match p.dst with | none => true | some d => !(o.looksAt l.toArray).contains d || o.after.any (fun e => Region.binds .any e && e.on == j))

/-- .. that each guard is decided by what is listed. -/
def guardsB (l : List Oper) : List Oper → List Leave → List Leave → Bool
  | o :: os, y :: ys, all => (match o.guard with
    | none => !y.isSkip
    | some (k, b) => o.after.any (fun e => Region.binds .any e && e.on == k) && (match all[k]?, (l[k]?).bind (·.dst) with
      | some (.val (.bool c)), some _ => (c == b) == !y.isSkip
      | _, _ => false)) && guardsB l os ys all
  | _, _, _ => true

/-- Does one wait for another, straight or over others? -/
def reachB (l : List Oper) : Nat → Nat → Nat → Bool
  | 0, _, _ => false
  | n + 1, j, i => Region.waitsFor .any l.toArray j i || (List.range j).any (fun k => Region.waitsFor .any l.toArray j k && reachB l n k i)

/-- .. that a block is written anew once at most, behind its making. -/
def putsB (l : List Oper) (ys : List Leave) : Bool :=
  (List.range ys.length).all fun i => match ys[i]? with
    | some (Leave.put k _) => Region.waitsFor .any l.toArray i k && (match ys[k]? with | some (.box _) => true | some (.row _ _ _) => true | _ => false) && (match (l[i]?).bind (·.dst) with | none => true | some _ => false) &&
      (List.range ys.length).all fun j => match ys[j]? with
        | some (Leave.put k' _) => decide (i = j) || k != k'
        | _ => true
    | _ => true

/-- .. that the calls that turn memory come one behind the other. -/
def turnsB (l : List Oper) (ys : List Leave) (n : Nat) : Bool :=
  ((List.range ys.length).all fun i => match ys[i]? with
    | some (Leave.turn s _) => decide (s < n) && (decide (s = 0) || (List.range i).any fun j => match ys[j]? with
        | some (Leave.turn s' _) => decide (s' + 1 = s) && reachB l l.length i j
        | _ => false) && (List.range ys.length).all fun j => match ys[j]? with
        | some (Leave.turn s' _) => decide (i = j) || s != s'
        | _ => true
    | _ => true) && (decide (n = 0) || (List.range ys.length).any fun i => match ys[i]? with
    | some (Leave.turn s _) => decide (s + 1 = n)
    | _ => false)

/-- .. that what is early comes ahead of its turn. -/
def earlyB (l : List Oper) (ys : List Leave) : Bool :=
  (List.range ys.length).all fun i => match ys[i]? with
    | some (Leave.early t _) => (List.range ys.length).any fun j => match ys[j]? with
        | some (Leave.turn s _) => decide (s = t) && reachB l l.length j i
        | _ => false
    | _ => true
theorem early_at {l : List Oper} {ys : List Leave} (h : earlyB l ys = true) {i t : Nat} {v : Value} (hi : ys[i]? = some (Leave.early t v)) : ∃ j u, ys[j]? = some (Leave.turn t u) ∧ reachB l l.length j i = true := by
  have h1 := List.all_eq_true.1 h i (List.mem_range.2 (List.getElem?_eq_some_iff.1 hi).1)
  rw [hi] at h1
  obtain ⟨j, -, h2⟩ := List.any_eq_true.1 h1
  split at h2
  · rename_i s u hj
    simp only [Bool.and_eq_true, decide_eq_true_eq] at h2
    obtain ⟨rfl, h3⟩ := h2
    exact ⟨j, u, hj, h3⟩
  · cases h2

structure HeadOk (l : List Oper) (n size : Nat) : Prop where
  dst : ∀ i o d, i < n → l[i]? = some o → o.dst = some d → d < size
  back : ∀ i o, i < n → l[i]? = some o → ∀ e ∈ o.after, Region.binds .any e = true → e.on < i
  apart : ∀ i j o p, i < n → j < n → l[i]? = some o → l[j]? = some p → i ≠ j → o.dst ≠ none → p.dst ≠ o.dst
  looks : ∀ i j o p d, i < n → j < n → l[i]? = some o → l[j]? = some p → p.dst = some d → d ∈ o.looksAt l.toArray → ∃ e ∈ o.after, Region.binds .any e = true ∧ e.on = j
  there : ∀ i, i < n → ∃ o, l[i]? = some o

theorem headOk {l : List Oper} {n size : Nat} (h : headB l n size = true) : HeadOk l n size := by
  have key : ∀ i, i < n → ∃ o, l[i]? = some o ∧ (∀ d, o.dst = some d → d < size) ∧ (∀ e ∈ o.after, Region.binds .any e = true → e.on < i) ∧
      ∀ j, j < n → ∃ p, l[j]? = some p ∧ (i ≠ j → o.dst ≠ none → p.dst ≠ o.dst) ∧ ∀ d, p.dst = some d → d ∈ o.looksAt l.toArray → ∃ e ∈ o.after, Region.binds .any e = true ∧ e.on = j := by
    intro i hi
    have h1 := List.all_eq_true.1 h i (List.mem_range.2 hi)
    cases ho : l[i]? with
    | none => rw [ho] at h1; cases h1
    | some o =>
      simp only [ho, Bool.and_eq_true] at h1
      obtain ⟨⟨h3, h4⟩, h5⟩ := h1
      refine ⟨o, rfl, ?_, ?_, ?_⟩
      · intro d hd; rw [hd] at h3; simpa using h3
      · intro e he hb
        have := Array.all_eq_true'.1 h4 e he
        simpa [hb] using this
      · intro j hj
        have h6 := List.all_eq_true.1 h5 j (List.mem_range.2 hj)
        cases hp : l[j]? with
        | none => rw [hp] at h6; cases h6
        | some p =>
          simp only [hp, Bool.and_eq_true] at h6
          obtain ⟨h7, h8⟩ := h6
          refine ⟨p, rfl, fun hij hn => ?_, fun d hd hm => ?_⟩
          · have h9 : (o.dst == none) = false := by
              cases hd : o.dst with
              | none => exact absurd hd hn
              | some d => rfl
            have : (p.dst != o.dst) = true := by simpa [hij, h9] using h7
            simpa using this
          · rw [hd] at h8
            have hc : (o.looksAt l.toArray).contains d = true := by simpa using hm
            simp only [hc, Bool.not_true, Bool.false_or] at h8
            obtain ⟨e, he, he2⟩ := Array.any_eq_true'.1 h8
            simp only [Bool.and_eq_true, beq_iff_eq] at he2
            exact ⟨e, he, he2⟩
  refine ⟨?_, ?_, ?_, ?_, ?_⟩
  · intro i o d hi ho; obtain ⟨o', ho', h1, _⟩ := key i hi; rw [ho] at ho'; cases ho'; exact h1 d
  · intro i o hi ho; obtain ⟨o', ho', _, h1, _⟩ := key i hi; rw [ho] at ho'; cases ho'; exact h1
  · intro i j o p hi hj ho hp hij hn; obtain ⟨o', ho', _, _, h1⟩ := key i hi; rw [ho] at ho'; cases ho'
    obtain ⟨p', hp', h2, _⟩ := h1 j hj; rw [hp] at hp'; cases hp'; exact h2 hij hn
  · intro i j o p d hi hj ho hp hd hm; obtain ⟨o', ho', _, _, h1⟩ := key i hi; rw [ho] at ho'; cases ho'
    obtain ⟨p', hp', _, h2⟩ := h1 j hj; rw [hp] at hp'; cases hp'; exact h2 d hd hm
  · intro i hi; obtain ⟨o', ho', _⟩ := key i hi; exact ⟨o', ho'⟩

theorem guards_at {l : List Oper} : ∀ {os : List Oper} {ys all : List Leave} {i : Nat} {o : Oper} {y : Leave}, guardsB l os ys all = true → os[i]? = some o → ys[i]? = some y →
    (o.guard = none ∧ y.isSkip = false) ∨ ∃ k b c, o.guard = some (k, b) ∧ (∃ e ∈ o.after, Region.binds .any e = true ∧ e.on = k) ∧ all[k]? = some (.val (.bool c)) ∧ (∃ d, (l[k]?).bind (·.dst) = some d) ∧ ((c == b) = !y.isSkip)
  | o :: os, y :: ys, all, 0, _, _, h, h1, h2 => by
    simp only [List.getElem?_cons_zero, Option.some.injEq] at h1 h2
    subst h1 h2
    simp only [guardsB, Bool.and_eq_true] at h
    obtain ⟨h, _⟩ := h
    cases hg : o.guard with
    | none => rw [hg] at h; left; exact ⟨rfl, by simpa using h⟩
    | some kb =>
      obtain ⟨k, b⟩ := kb
      rw [hg] at h
      simp only [Bool.and_eq_true] at h
      obtain ⟨h3, h4⟩ := h
      obtain ⟨e, he, he2⟩ := Array.any_eq_true'.1 h3
      simp only [Bool.and_eq_true, beq_iff_eq] at he2
      right
      split at h4
      · rename_i c d hc hd
        exact ⟨k, b, c, rfl, ⟨e, he, he2⟩, hc, ⟨d, hd⟩, by simpa using h4⟩
      · cases h4
  | o :: os, y :: ys, all, i + 1, _, _, h, h1, h2 => by
    simp only [List.getElem?_cons_succ] at h1 h2
    simp only [guardsB, Bool.and_eq_true] at h
    exact guards_at h.2 h1 h2
  | [], _, _, _, _, _, _, h1, _ => by simp at h1
  | _ :: _, [], _, _, _, _, _, _, h2 => by simp at h2

theorem puts_at {l : List Oper} {ys : List Leave} (h : putsB l ys = true) {i k : Nat} {c : Obj} (hi : ys[i]? = some (Leave.put k c)) :
    Region.waitsFor .any l.toArray i k = true ∧ (∃ y b, ys[k]? = some y ∧ y.obj = some b) ∧ (l[i]?).bind (·.dst) = none ∧ ∀ j c', ys[j]? = some (Leave.put k c') → j = i := by
  have h1 := List.all_eq_true.1 h i (List.mem_range.2 (List.getElem?_eq_some_iff.1 hi).1)
  rw [hi] at h1
  simp only [Bool.and_eq_true] at h1
  obtain ⟨⟨⟨h2, h3⟩, h3'⟩, h4⟩ := h1
  refine ⟨h2, ?_, ?_, fun j c' hj => ?_⟩
  · split at h3
    · rename_i o ho; exact ⟨_, o, ho, rfl⟩
    · rename_i o n c ho; exact ⟨_, o, ho, rfl⟩
    · cases h3
  · split at h3'
    · assumption
    · cases h3'
  · have h5 := List.all_eq_true.1 h4 j (List.mem_range.2 (List.getElem?_eq_some_iff.1 hj).1)
    rw [hj] at h5
    simp at h5
    exact h5.symm

theorem turns_at {l : List Oper} {ys : List Leave} {n : Nat} (h : turnsB l ys n = true) {i s : Nat} {v : Value} (hi : ys[i]? = some (Leave.turn s v)) :
    s < n ∧ (s = 0 ∨ ∃ j v', j < i ∧ ys[j]? = some (Leave.turn (s - 1) v') ∧ reachB l l.length i j = true) ∧ ∀ j v', ys[j]? = some (Leave.turn s v') → j = i := by
  simp only [turnsB, Bool.and_eq_true] at h
  have h1 := List.all_eq_true.1 h.1 i (List.mem_range.2 (List.getElem?_eq_some_iff.1 hi).1)
  rw [hi] at h1
  simp only [Bool.and_eq_true, Bool.or_eq_true, decide_eq_true_eq] at h1
  obtain ⟨⟨h2, h3⟩, h4⟩ := h1
  refine ⟨h2, ?_, fun j v' hj => ?_⟩
  · rcases h3 with e | e
    · exact .inl e
    · obtain ⟨j, hj, e⟩ := List.any_eq_true.1 e
      split at e
      · rename_i s' v' hjy
        simp only [Bool.and_eq_true, decide_eq_true_eq] at e
        exact .inr ⟨j, v', List.mem_range.1 hj, by rw [hjy, show s' = s - 1 by omega], e.2⟩
      · cases e
  · have h5 := List.all_eq_true.1 h4 j (List.mem_range.2 (List.getElem?_eq_some_iff.1 hj).1)
    rw [hj] at h5
    simp at h5
    exact h5.symm

theorem turns_last {l : List Oper} {ys : List Leave} {n : Nat} (h : turnsB l ys n = true) : n = 0 ∨ ∃ (i : Nat) (v : Value), ys[i]? = some (Leave.turn (n - 1) v) := by
  simp only [turnsB, Bool.and_eq_true, Bool.or_eq_true, decide_eq_true_eq] at h
  rcases h.2 with e | e
  · exact .inl e
  · obtain ⟨i, hi, e⟩ := List.any_eq_true.1 e
    split at e
    · rename_i s v hy
      simp only [decide_eq_true_eq] at e
      exact .inr ⟨i, v, by rw [hy, show s = n - 1 by omega]⟩
    · cases e

/-- The blocks that have been made. -/
def made (ys : List Leave) (g : Nat → Nat) (listed : Array Bool) : Nat → Prop := fun b => ∃ i y o, ys[i]? = some y ∧ y.obj = some o ∧ listed.getD i false = true ∧ b = g i

/-- The state of the region. -/
structure Telling (K : Nat → World → (Nat → Prop) → Prop) (l : List Oper) (ys : List Leave) (a0 : Act) (W : World) (g : Nat → Nat) (st : Nat) (listed : Array Bool) (a : Act) (w : World) : Prop where
  size : a.tmps.size = a0.tmps.size
  defers : a.defers = a0.defers
  keep : K st w (made ys g listed)
  grown : W.heap.size ≤ w.heap.size
  closed : ∀ j oj, l[j]? = some oj → listed.getD j false = true → ∀ e ∈ oj.after, Region.binds .any e = true → listed.getD e.on false = true
  other : ∀ t, (∀ i o, i < ys.length → l[i]? = some o → listed.getD i false = true → o.dst ≠ some t) → a.tmps.getD t undef = a0.tmps.getD t undef
  slot : ∀ i o y d, l[i]? = some o → ys[i]? = some y → listed.getD i false = true → o.dst = some d → a.tmps.getD d undef = y.value (g i)
  low : ∀ i y b, ys[i]? = some y → y.obj = some b → listed.getD i false = true → W.heap.size ≤ g i ∧ g i < w.heap.size
  boxes : ∀ i y b, ys[i]? = some y → y.obj = some b → listed.getD i false = true → (∀ j c, ys[j]? = some (Leave.put i c) → listed.getD j false = false) → w.heap[g i]? = some b
  puts : ∀ j i c, ys[j]? = some (Leave.put i c) → listed.getD j false = true → w.heap[g i]? = some c
  apart : ∀ i j y z b c, i ≠ j → ys[i]? = some y → ys[j]? = some z → y.obj = some b → z.obj = some c → listed.getD i false = true → listed.getD j false = true → g i ≠ g j
  turns : ∀ i s v, ys[i]? = some (Leave.turn s v) → (listed.getD i false = true ↔ s < st)
  stage : st = 0 ∨ ∃ (i : Nat) (v : Value), ys[i]? = some (Leave.turn (st - 1) v)

theorem getD_set_cases {listed : Array Bool} {i j : Nat} (h : (listed.setIfInBounds i true).getD j false = true) : j = i ∨ listed.getD j false = true := by
  by_cases hji : i = j
  · exact .inl hji.symm
  · rw [getD_set_ne false hji] at h; exact .inr h
theorem getD_set_not {listed : Array Bool} {i j : Nat} (h : (listed.setIfInBounds i true).getD j false = false) : listed.getD j false = false := by
  by_cases hji : i = j
  · subst hji
    cases hl : listed.getD i false with
    | false => rfl
    | true =>
      have hin : i < listed.size := by
        rcases Nat.lt_or_ge i listed.size with h' | h'
        · exact h'
        · simp [Array.getElem?_eq_none h'] at hl
      simp [hin] at h
  · rwa [getD_set_ne false hji] at h

variable {l : List Oper} {ys : List Leave} {a0 : Act} {W : World}

theorem eval_tmp (a : Act) (t : Tmp) : a.eval (.tmp t) = a.tmps.getD t undef := rfl

/-- An operation whose turn it is does in the frame at hand what it does in the full one. -/
theorem Telling.same {g : Nat → Nat} {st : Nat} {listed : Array Bool} {a : Act} {w : World} (ok : HeadOk l ys.length a0.tmps.size) (h : Telling K l ys a0 W g st listed a w) (hs : Region.noSelect l.toArray = true) {i : Nat} {o : Oper} (hi : i < ys.length) (ho : l[i]? = some o)
    (hd : ∀ e ∈ o.after, Region.binds .any e = true → listed.getD e.on false = true) : execOp a.eval o = execOp (fill g 0 l ys a0).eval o := by
  have hsel : ∀ cs b, o.op ≠ .select cs b := fun cs b => Region.noSelect_spec hs i o cs b (by simpa using ho)
  refine execOp_congr o hsel fun x hx => ?_
  cases x with
  | tmp t =>
    have hm : t ∈ o.looksAt l.toArray := List.mem_append_left _ (List.mem_filterMap.2 ⟨.tmp t, by simpa using hx, rfl⟩)
    rw [eval_tmp, eval_tmp]
    by_cases hex : ∃ j p, j < ys.length ∧ l[j]? = some p ∧ p.dst = some t
    · obtain ⟨j, p, hj, hp, hpt⟩ := hex
      obtain ⟨e, he, hb, hon⟩ := ok.looks i j o p t hi hj ho hp hpt hm
      have hlj : listed.getD j false = true := by rw [← hon]; exact hd e he hb
      have hy : ys[j]? = some ys[j] := by simp [hj]
      rw [h.slot j p _ t hp hy hlj hpt, fill_slot g t 0 l ys a0 j p _ (ok.dst j p t hj hp hpt) hp hy hpt (fun k q hk hkj hq e => ok.apart j k p q hj hk hp hq (Ne.symm hkj) (by rw [hpt]; simp) (by rw [e, hpt])), Nat.zero_add]
    · rw [h.other t (fun j p hj hp _ e => hex ⟨j, p, hj, hp, e⟩), fill_other g t 0 l ys a0 (fun j p hj hp e => hex ⟨j, p, hj, hp, e⟩)]
  | _ => rfl

/-- The frame and the list behind one operation. -/
theorem Telling.frame {g gg : Nat → Nat} {st st' : Nat} {listed : Array Bool} {a : Act} {w w' : World} {i : Nat} {o : Oper} {y : Leave} {v : Value} (ok : HeadOk l ys.length a0.tmps.size) (h : Telling K l ys a0 W g st listed a w) (hi : i < ys.length) (ho : l[i]? = some o) (hy : ys[i]? = some y)
    (hin : i < listed.size) (hun : listed.getD i false = false) (hdep : ∀ e ∈ o.after, Region.binds .any e = true → listed.getD e.on false = true) (hv : ∀ d, o.dst = some d → v = y.value (gg i)) (hgj : ∀ j, j ≠ i → gg j = g j)
    (hK : K st' w' (made ys gg (listed.setIfInBounds i true))) (hgr : w.heap.size ≤ w'.heap.size)
    (hlow : ∀ b, y.obj = some b → W.heap.size ≤ gg i ∧ gg i < w'.heap.size)
    (hbox : ∀ j z b, ys[j]? = some z → z.obj = some b → (listed.setIfInBounds i true).getD j false = true → (∀ k c, ys[k]? = some (Leave.put j c) → (listed.setIfInBounds i true).getD k false = false) → w'.heap[gg j]? = some b)
    (hput : ∀ j k c, ys[j]? = some (Leave.put k c) → (listed.setIfInBounds i true).getD j false = true → w'.heap[gg k]? = some c)
    (hap : ∀ j z b c, y.obj = some c → ys[j]? = some z → z.obj = some b → listed.getD j false = true → gg i ≠ g j)
    (hturn : ∀ j s u, ys[j]? = some (Leave.turn s u) → ((listed.setIfInBounds i true).getD j false = true ↔ s < st')) (hst : st' = 0 ∨ ∃ (i : Nat) (v : Value), ys[i]? = some (Leave.turn (st' - 1) v)) :
    Telling K l ys a0 W gg st' (listed.setIfInBounds i true) (a.put o.dst v) w' := by
  have hset : (listed.setIfInBounds i true).getD i false = true := by simp [hin]
  refine ⟨by rw [put_size, h.size], by rw [put_defers, h.defers], hK, Nat.le_trans h.grown hgr, ?_, ?_, ?_, ?_, hbox, hput, ?_, hturn, hst⟩
  · intro j oj hj hl e he hb
    rcases getD_set_cases hl with q | q
    · subst q
      rw [ho] at hj; cases hj
      exact getD_set_true (hdep e he hb)
    · exact getD_set_true (h.closed j oj hj q e he hb)
  · intro t ht
    rw [put_other _ _ _ _ (ht i o hi ho hset)]
    refine h.other t fun j p hj hp hl => ht j p hj hp ?_
    by_cases hij : i = j
    · subst hij; rw [hun] at hl; cases hl
    · rw [getD_set_ne false hij]; exact hl
  · intro j p z t hp hyj hl ht
    by_cases hij : j = i
    · subst hij
      rw [ho] at hp; cases hp
      rw [hy] at hyj; cases hyj
      rw [ht, put_slot _ _ _ (by rw [h.size]; exact ok.dst _ o t hi ho ht), hv t ht]
    · rcases getD_set_cases hl with e | hl'
      · exact absurd e hij
      · have hj : j < ys.length := (List.getElem?_eq_some_iff.1 hyj).1
        rw [put_other _ _ _ _ (fun e => ok.apart j i p o hj hi hp ho (fun q => hij q) (by rw [ht]; simp) (by rw [e, ht])), h.slot j p z t hp hyj hl' ht, hgj j hij]
  · intro j z b hyj hz hl
    by_cases hij : j = i
    · subst hij
      rw [hy] at hyj; cases hyj
      exact hlow b hz
    · rcases getD_set_cases hl with e | hl'
      · exact absurd e hij
      · obtain ⟨h1, h2⟩ := h.low j z b hyj hz hl'
        rw [hgj j hij]
        exact ⟨h1, Nat.lt_of_lt_of_le h2 hgr⟩
  · intro j k z u b c hjk hj hk hz hu hlj hlk
    by_cases hji : j = i
    · have hki : k ≠ i := fun e => hjk (hji.trans e.symm)
      rcases getD_set_cases hlk with e | hlk'
      · exact absurd e hki
      · subst hji
        rw [hy] at hj; cases hj
        rw [hgj k hki]
        exact hap k u c b hz hk hu hlk'
    · rcases getD_set_cases hlj with e | hlj'
      · exact absurd e hji
      · by_cases hki : k = i
        · subst hki
          rw [hy] at hk; cases hk
          rw [hgj j hji]
          exact Ne.symm (hap j z b c hu hj hz hlj')
        · rcases getD_set_cases hlk with e | hlk'
          · exact absurd e hki
          · rw [hgj j hji, hgj k hki]; exact h.apart j k z u b c hjk hj hk hz hu hlj' hlk'

theorem reach_listed {listed : Array Bool} (hcl : ∀ j oj, l[j]? = some oj → listed.getD j false = true → ∀ e ∈ oj.after, Region.binds .any e = true → listed.getD e.on false = true) :
    ∀ (f j i : Nat), reachB l f j i = true → listed.getD j false = true → listed.getD i false = true
  | 0, j, i, h, _ => by cases h
  | f + 1, j, i, h, hj => by
    have wl : ∀ k, Region.waitsFor .any l.toArray j k = true → listed.getD k false = true := fun k hk => by
      obtain ⟨oj, hoj, e, he, hb, rfl⟩ := Region.waitsFor_spec hk
      exact hcl j oj (by simpa using hoj) hj e he hb
    unfold reachB at h
    rcases Bool.or_eq_true _ _ ▸ h with e | e
    · exact wl i e
    · obtain ⟨k, -, e⟩ := List.any_eq_true.1 e
      simp only [Bool.and_eq_true] at e
      exact reach_listed hcl f k i e.2 (wl k e.1)

theorem reach_ready {listed : Array Bool} (hcl : ∀ j oj, l[j]? = some oj → listed.getD j false = true → ∀ e ∈ oj.after, Region.binds .any e = true → listed.getD e.on false = true) {f j i : Nat} {o : Oper} (ho : l[j]? = some o)
    (hdep : ∀ e ∈ o.after, Region.binds .any e = true → listed.getD e.on false = true) (h : reachB l f j i = true) : listed.getD i false = true := by
  have wl : ∀ k, Region.waitsFor .any l.toArray j k = true → listed.getD k false = true := fun k hk => by
    obtain ⟨oj, hoj, e, he, hb, rfl⟩ := Region.waitsFor_spec hk
    have : oj = o := Option.some.inj ((show l[j]? = some oj by simpa using hoj).symm.trans ho)
    subst this
    exact hdep e he hb
  cases f with
  | zero => cases h
  | succ f =>
    unfold reachB at h
    rcases Bool.or_eq_true _ _ ▸ h with e | e
    · exact wl i e
    · obtain ⟨k, -, e⟩ := List.any_eq_true.1 e
      simp only [Bool.and_eq_true] at e
      exact reach_listed hcl f k i e.2 (wl k e.1)

/-- What is asked of what holds of the memory. -/
structure Kept (K : Nat → World → (Nat → Prop) → Prop) : Prop where
  below : ∀ s w w' (G G' : Nat → Prop), K s w G → Below w.heap.size w w' → (∀ k, G' k → G k ∨ (w.heap.size ≤ k ∧ k < w'.heap.size)) → K s w' G'
  only : ∀ s w w' b (G : Nat → Prop), K s w G → G b → Only b w w' → K s w' G
  less : ∀ s w (G G' : Nat → Prop), K s w G → (∀ k, G' k → G k) → K s w G'

theorem made_set {g : Nat → Nat} {listed : Array Bool} {i : Nat} {y : Leave} (hy : ys[i]? = some y) (hno : y.obj = none) : ∀ b, made ys g (listed.setIfInBounds i true) b → made ys g listed b := by
  rintro b ⟨j, z, o, hj, hz, hl, e⟩
  rcases getD_set_cases hl with q | q
  · subst q; rw [hy] at hj; cases hj; rw [hno] at hz; cases hz
  · exact ⟨j, z, o, hj, hz, q, e⟩

/-- Behind an operation that makes no block of the region's own, and turns none. -/
theorem Telling.plain {g : Nat → Nat} {st st' : Nat} {listed : Array Bool} {a : Act} {w w' : World} {i : Nat} {o : Oper} {y : Leave} {v : Value} (ok : HeadOk l ys.length a0.tmps.size) (h : Telling K l ys a0 W g st listed a w) (hi : i < ys.length) (ho : l[i]? = some o) (hy : ys[i]? = some y)
    (hin : i < listed.size) (hun : listed.getD i false = false) (hdep : ∀ e ∈ o.after, Region.binds .any e = true → listed.getD e.on false = true) (hv : v = y.value (g i)) (hno : y.obj = none) (hnp : ∀ k c, y ≠ .put k c)
    (hK : K st' w' (made ys g listed)) (hKe : Kept K) (hgr : w.heap.size ≤ w'.heap.size) (hbl : ∀ b, made ys g listed b → w'.heap[b]? = w.heap[b]?) (hpw : putsB l ys = true)
    (hturn : ∀ j s u, ys[j]? = some (Leave.turn s u) → ((listed.setIfInBounds i true).getD j false = true ↔ s < st')) (hst : st' = 0 ∨ ∃ (i : Nat) (v : Value), ys[i]? = some (Leave.turn (st' - 1) v)) :
    Telling K l ys a0 W g st' (listed.setIfInBounds i true) (a.put o.dst v) w' := by
  refine h.frame ok hi ho hy hin hun hdep (fun _ _ => hv) (fun _ _ => rfl) (hKe.less _ _ _ _ hK (made_set hy hno)) hgr (fun b hb => by rw [hno] at hb; cases hb) ?_ ?_ (fun j z b c hc => by rw [hno] at hc; cases hc) hturn hst
  · intro j z b hyj hz hl hnone
    rcases getD_set_cases hl with q | q
    · subst q; rw [hy] at hyj; cases hyj; rw [hno] at hz; cases hz
    · rw [hbl (g j) ⟨j, z, b, hyj, hz, q, rfl⟩]
      exact h.boxes j z b hyj hz q (fun k c hk => getD_set_not (hnone k c hk))
  · intro j k c hj hl
    rcases getD_set_cases hl with q | q
    · subst q; rw [hy] at hj; injection hj with hj; exact absurd hj (hnp k c)
    · obtain ⟨h1, ⟨z, b, h2, h3⟩, -, -⟩ := puts_at hpw hj
      obtain ⟨oj, hoj, e, he, hb, hon⟩ := Region.waitsFor_spec h1
      have hlk : listed.getD k false = true := by rw [← hon]; exact h.closed j oj (by simpa using hoj) q e he hb
      rw [hbl (g k) ⟨k, z, b, h2, h3, hlk, rfl⟩]
      exact h.puts j k c hj q

/-- .. behind one that makes a block. -/
theorem Telling.block {g : Nat → Nat} {st : Nat} {listed : Array Bool} {a : Act} {w : World} {i : Nat} {o : Oper} {y : Leave} {b : Obj} (ok : HeadOk l ys.length a0.tmps.size) (h : Telling K l ys a0 W g st listed a w) (hi : i < ys.length) (ho : l[i]? = some o) (hy : ys[i]? = some y)
    (hin : i < listed.size) (hun : listed.getD i false = false) (hdep : ∀ e ∈ o.after, Region.binds .any e = true → listed.getD e.on false = true) (hob : y.obj = some b) (hnt : ∀ s v, y ≠ .turn s v) (hKe : Kept K) (hpw : putsB l ys = true) :
    ∃ g' st', Telling K l ys a0 W g' st' (listed.setIfInBounds i true) (a.put o.dst (y.value w.heap.size)) (w.alloc b) := by
  obtain ⟨gg, hgi, hgj⟩ : ∃ gg : Nat → Nat, gg i = w.heap.size ∧ ∀ j, j ≠ i → gg j = g j := ⟨fun j => if j = i then w.heap.size else g j, by simp, fun j hj => by simp [hj]⟩
  have hal : Below w.heap.size w (w.alloc b) := (Below.refl _ _).alloc (Nat.le_refl _) b
  have hsz : (w.alloc b).heap.size = w.heap.size + 1 := by simp
  refine ⟨gg, st, h.frame ok hi ho hy hin hun hdep (fun _ _ => by rw [hgi]) hgj (hKe.below _ _ _ _ _ h.keep hal ?_) hal.size (fun _ _ => ⟨by rw [hgi]; exact h.grown, by rw [hgi, hsz]; omega⟩) ?_ ?_ ?_ ?_ h.stage⟩
  · rintro k ⟨j, z, c, hj, hz, hl, rfl⟩
    by_cases hji : j = i
    · right; rw [hji, hgi, hsz]; omega
    · rcases getD_set_cases hl with q | q
      · exact absurd q hji
      · left; rw [hgj j hji]; exact ⟨j, z, c, hj, hz, q, rfl⟩
  · intro j z c hyj hz hl hnone
    by_cases hji : j = i
    · subst hji
      rw [hy] at hyj; cases hyj
      rw [hob] at hz; cases hz
      rw [hgi]
      show (w.heap.push b)[w.heap.size]? = some b
      simp
    · rcases getD_set_cases hl with q | q
      · exact absurd q hji
      · rw [hgj j hji, Below.heap_alloc _ _ _ (h.low j z c hyj hz q).2]
        exact h.boxes j z c hyj hz q (fun k d hk => getD_set_not (hnone k d hk))
  · intro j k c hj hl
    obtain ⟨h1, ⟨z, d, h2, h3⟩, -, -⟩ := puts_at hpw hj
    rcases getD_set_cases hl with q | q
    · subst q; rw [hy] at hj; cases hj; cases hob
    · obtain ⟨oj, hoj, e, he, hb, hon⟩ := Region.waitsFor_spec h1
      have hlk : listed.getD k false = true := by rw [← hon]; exact h.closed j oj (by simpa using hoj) q e he hb
      have hki : k ≠ i := fun e => by subst e; rw [hun] at hlk; cases hlk
      rw [hgj k hki, Below.heap_alloc _ _ _ (h.low k z d h2 h3 hlk).2]
      exact h.puts j k c hj q
  · intro j z d c hc hj hz hl
    have := (h.low j z d hj hz hl).2
    rw [hgi]; omega
  · intro j s u hj
    rw [← h.turns j s u hj]
    constructor
    · intro hl
      rcases getD_set_cases hl with q | q
      · subst q; rw [hy] at hj; injection hj with hj; exact absurd hj (hnt s u)
      · exact q
    · exact getD_set_true

/-- .. behind one that writes a block anew. -/
theorem Telling.putted {g : Nat → Nat} {st : Nat} {listed : Array Bool} {a : Act} {w w' : World} {i : Nat} {o : Oper} {k : Nat} {c : Obj} {u : Value} (ok : HeadOk l ys.length a0.tmps.size) (h : Telling K l ys a0 W g st listed a w) (hi : i < ys.length) (ho : l[i]? = some o) (hy : ys[i]? = some (Leave.put k c))
    (hin : i < listed.size) (hun : listed.getD i false = false) (hdep : ∀ e ∈ o.after, Region.binds .any e = true → listed.getD e.on false = true) (hKe : Kept K) (hpw : putsB l ys = true) (hlk : listed.getD k false = true) (hc : w'.heap[g k]? = some c) (honly : Only (g k) w w') :
    ∃ g' st', Telling K l ys a0 W g' st' (listed.setIfInBounds i true) (a.put o.dst u) w' := by
  obtain ⟨h1, ⟨z, b, h2, h3⟩, h4, h5⟩ := puts_at hpw hy
  have hnd : o.dst = none := by rw [ho] at h4; exact h4
  refine ⟨g, st, h.frame ok hi ho hy hin hun hdep (fun d hd => by rw [hnd] at hd; cases hd) (fun _ _ => rfl) (hKe.only _ _ _ _ _ (hKe.less _ _ _ _ h.keep (made_set hy rfl)) ?_ honly) (by rw [honly.size]; omega) (fun b hb => by cases hb) ?_ ?_ (fun j z b c hc => by cases hc) ?_ h.stage⟩
  · exact ⟨k, z, b, h2, h3, getD_set_true hlk, rfl⟩
  · intro j z' b' hyj hz hl hnone
    by_cases hjk : j = k
    · subst hjk
      have := hnone i c hy
      rw [show (listed.setIfInBounds i true).getD i false = true by simp [hin]] at this
      cases this
    · rcases getD_set_cases hl with q | q
      · subst q; rw [hy] at hyj; cases hyj; cases hz
      · rw [honly.block _ (h.apart j k z' z b' b hjk hyj h2 hz h3 q hlk)]
        exact h.boxes j z' b' hyj hz q (fun m d hm => getD_set_not (hnone m d hm))
  · intro j m d hj hl
    rcases getD_set_cases hl with q | q
    · subst q; rw [hy] at hj; injection hj with hj; injection hj with e1 e2; subst e1 e2; exact hc
    · obtain ⟨g1, ⟨z', b', g2, g3⟩, -, g5⟩ := puts_at hpw hj
      obtain ⟨oj, hoj, e, he, hb, hon⟩ := Region.waitsFor_spec g1
      have hlm : listed.getD m false = true := by rw [← hon]; exact h.closed j oj (by simpa using hoj) q e he hb
      have hmk : m ≠ k := fun e => by
        subst e
        have := g5 i c hy
        subst this
        rw [hun] at q; cases q
      rw [honly.block _ (h.apart m k z' z b' b hmk g2 h2 g3 h3 hlm hlk)]
      exact h.puts j m d hj q
  · intro j s v hj
    rw [← h.turns j s v hj]
    constructor
    · intro hl
      rcases getD_set_cases hl with q | q
      · subst q; rw [hy] at hj; cases hj
      · exact q
    · exact getD_set_true

theorem Telling.step {g : Nat → Nat} {st n : Nat} {listed : Array Bool} {a : Act} {w : World} {Q : Exit → Act → World → Prop} (ok : HeadOk l ys.length a0.tmps.size) (h : Telling K l ys a0 W g st listed a w) (hs : Region.noSelect l.toArray = true)
    (hgd : guardsB l l ys ys = true) (hpw : putsB l ys = true) (htn : turnsB l ys n = true) (hea : earlyB l ys = true) (hKe : Kept K) (hall : allLeave P K (fun g => fill g 0 l ys a0) ys W l ys) (hsz : listed.size = l.toArray.size) {i : Nat} (hi : i < ys.length) (hr : i ∈ Region.ready .any l.toArray listed) :
    wpOp P l.toArray Q i (fun a' w' => ∃ g st, Telling K l ys a0 W g st (listed.setIfInBounds i true) a' w') a w := by
  obtain ⟨hun, o, ho, hdep⟩ := mem_ready.1 hr
  have ho' : l[i]? = some o := by simpa using ho
  have hy : ys[i]? = some ys[i] := by simp [hi]
  have hsame := h.same ok hs hi ho' hdep
  have hY := allLeave_at hall ho' hy
  have hun' : listed.getD i false = false := getD_both hun
  have hin : i < listed.size := by
    rw [hsz]; simpa using (List.getElem?_eq_some_iff.1 ho').1
  have hkn : known ys o W g w := fun e he hb y b hye hyb => ⟨(h.low e.on y b hye hyb (hdep e he hb)).1, fun hno => h.boxes e.on y b hye hyb (hdep e he hb) (fun j c hj => absurd hj (hno j c))⟩
  have hw : Region.wanted o (yielded l.toArray a.tmps) = !(ys[i]).isSkip := by
    rcases guards_at hgd ho' hy with ⟨hg, hsk⟩ | ⟨k, b, c, hg, ⟨e, he, hb, hon⟩, hk, ⟨d, hd⟩, hcb⟩
    · simp [Region.wanted, hg, hsk]
    · have hlk : listed.getD k false = true := by rw [← hon]; exact hdep e he hb
      have hkl : k < ys.length := (List.getElem?_eq_some_iff.1 hk).1
      obtain ⟨p, hp⟩ := ok.there k hkl
      have hd1 : p.dst = some d := by rw [hp] at hd; exact hd
      have hsl := h.slot k p _ d hp hk hlk hd1
      have hda : d < a.tmps.size := by rw [h.size]; exact ok.dst k p d hkl hp hd1
      have hyl : yielded l.toArray a.tmps k = some c := by
        unfold yielded
        simp only [List.getElem?_toArray, hp, Option.bind_some, hd1]
        have : a.tmps[d]? = some (.bool c) := by
          rw [Array.getElem?_eq_getElem hda]
          simpa [Leave.value, hda] using hsl
        rw [this]
      simp only [Region.wanted, hg, hyl]
      rw [← hcb]
      cases c <;> cases b <;> rfl
  have hsame_turns : (∀ s v, ys[i] ≠ Leave.turn s v) → ∀ j s u, ys[j]? = some (Leave.turn s u) → ((listed.setIfInBounds i true).getD j false = true ↔ s < st) := fun hnt j s u hj => by
    rw [← h.turns j s u hj]
    constructor
    · intro hl
      rcases getD_set_cases hl with q | q
      · subst q; rw [hy] at hj; injection hj with hj; exact absurd hj (hnt s u)
      · exact q
    · exact getD_set_true
  unfold wpOp
  simp only [ho, hw]
  revert hY hsame_turns
  generalize hyi : ys[i] = y at *
  cases y with
  | skip =>
    intro _ htu
    simp only [Leave.isSkip, Bool.not_true, Bool.false_eq_true, if_false]
    exact ⟨g, st, h.plain ok hi ho' hy hin hun' hdep rfl rfl (fun k c e => by cases e) h.keep hKe (Nat.le_refl _) (fun _ _ => rfl) hpw (htu (fun s v e => by cases e)) h.stage⟩
  | val v =>
    intro hY htu
    simp only [Leave.isSkip, Bool.not_false, if_true]
    left
    unfold Oper.wp
    rw [hsame]
    have h3 := hY st g w _ h.keep hkn
    generalize (execOp (fill g 0 l ys a0).eval o).run P w = r at *
    cases r with
    | ok nx w' =>
      cases nx <;> simp only [stays] at h3 <;> simp only [Oper.upon]
      case value u =>
        obtain ⟨rfl, rfl⟩ := h3
        exact ⟨g, st, h.plain ok hi ho' hy hin hun' hdep rfl rfl (fun k c e => by cases e) h.keep hKe (Nat.le_refl _) (fun _ _ => rfl) hpw (htu (fun s v e => by cases e)) h.stage⟩
      case enter f args =>
        obtain ⟨rfl, hc⟩ := h3
        refine hc.mono fun e w'' ⟨he, hb⟩ => ?_
        subst he
        refine ⟨g, st, h.plain ok hi ho' hy hin hun' hdep rfl rfl (fun k c e => by cases e) (hKe.below _ _ _ _ _ h.keep hb (fun k hk => .inl hk)) hKe hb.size (fun b hb' => ?_) hpw (htu (fun s v e => by cases e)) h.stage⟩
        obtain ⟨j, z, d, hj, hz, hl, rfl⟩ := hb'
        exact hb.block _ (h.low j z d hj hz hl).2
    | halt x w' => simp only [stays] at h3
  | early t v =>
    intro hY htu
    simp only [Leave.isSkip, Bool.not_false, if_true]
    left
    unfold Oper.wp
    rw [hsame]
    have hst : st ≤ t := by
      obtain ⟨j, u, hj, hre⟩ := early_at hea hy
      rcases Nat.lt_or_ge t st with q | q
      · have := reach_listed h.closed l.length j i hre ((h.turns j t u hj).2 q)
        rw [hun'] at this; cases this
      · exact q
    have h3 := hY st g w _ hst h.keep hkn
    generalize (execOp (fill g 0 l ys a0).eval o).run P w = r at *
    cases r with
    | ok nx w' =>
      cases nx <;> simp only [stays] at h3 <;> simp only [Oper.upon]
      case value u =>
        obtain ⟨rfl, rfl⟩ := h3
        exact ⟨g, st, h.plain ok hi ho' hy hin hun' hdep rfl rfl (fun k c e => by cases e) h.keep hKe (Nat.le_refl _) (fun _ _ => rfl) hpw (htu (fun s v e => by cases e)) h.stage⟩
      case enter f args =>
        obtain ⟨rfl, hc⟩ := h3
        refine hc.mono fun e w'' ⟨he, hb⟩ => ?_
        subst he
        refine ⟨g, st, h.plain ok hi ho' hy hin hun' hdep rfl rfl (fun k c e => by cases e) (hKe.below _ _ _ _ _ h.keep hb (fun k hk => .inl hk)) hKe hb.size (fun b hb' => ?_) hpw (htu (fun s v e => by cases e)) h.stage⟩
        obtain ⟨j, z, d, hj, hz, hl, rfl⟩ := hb'
        exact hb.block _ (h.low j z d hj hz hl).2
    | halt x w' => simp only [stays] at h3
  | turn s v =>
    intro hY _
    simp only [Leave.isSkip, Bool.not_false, if_true]
    left
    unfold Oper.wp
    rw [hsame]
    obtain ⟨hsn, hprev, huniq⟩ := turns_at htn hy
    have hst : st = s := by
      have h1 : ¬ s < st := fun e => by rw [(h.turns i s v hy).2 e] at hun'; cases hun'
      rcases hprev with e | ⟨j, v', hji, hj, hre⟩
      · omega
      · have := reach_ready h.closed ho' hdep hre
        have := (h.turns j (s - 1) v' hj).1 this
        omega
    subst hst
    have h3 := hY g w _ h.keep hkn
    have key : ∀ w'', K (st + 1) w'' (made ys g listed) → w.heap.size ≤ w''.heap.size → (∀ k, made ys g listed k → w''.heap[k]? = w.heap[k]?) → ∃ g st, Telling K l ys a0 W g st (listed.setIfInBounds i true) (a.put o.dst v) w'' := fun w'' hk hsz2 hbl => by
      refine ⟨g, st + 1, h.plain ok hi ho' hy hin hun' hdep rfl rfl (fun k c e => by cases e) hk hKe hsz2 hbl hpw (fun j s' u hj => ?_) (.inr ⟨i, v, by simpa using hy⟩)⟩
      by_cases hji : j = i
      · subst hji
        rw [hy] at hj
        injection hj with hj
        injection hj with e1 e2
        subst e1
        simp [hin]
      · have hne : s' ≠ st := fun e => hji (huniq j u (by rw [← e]; exact hj))
        constructor
        · intro hl
          rcases getD_set_cases hl with q | q
          · exact absurd q hji
          · have := (h.turns j s' u hj).1 q
            omega
        · intro hl
          exact getD_set_true ((h.turns j s' u hj).2 (by omega))
    generalize (execOp (fill g 0 l ys a0).eval o).run P w = r at *
    cases r with
    | ok nx w' =>
      cases nx <;> simp only [turnsTo] at h3 <;> simp only [Oper.upon]
      case enter f args =>
        obtain ⟨rfl, hc⟩ := h3
        refine hc.mono fun e w'' ⟨he, hk, hsz2, hbl⟩ => ?_
        subst he
        exact key w'' hk hsz2 hbl
      case skip =>
        obtain ⟨rfl, hk, hsz2, hbl⟩ := h3
        exact key w' hk hsz2 hbl
      case value u =>
        obtain ⟨rfl, hk, hsz2, hbl⟩ := h3
        exact key w' hk hsz2 hbl
    | halt x w' => simp only [turnsTo] at h3
  | put k c =>
    intro hY _
    simp only [Leave.isSkip, Bool.not_false, if_true]
    left
    unfold Oper.wp
    obtain ⟨h1, ⟨z, b, h2, h3⟩, h4, h5⟩ := puts_at hpw hy
    obtain ⟨oj, hoj, e, he, hb, hon⟩ := Region.waitsFor_spec h1
    have hoo : oj = o := Option.some.inj ((show l[i]? = some oj by simpa using hoj).symm.trans ho')
    subst hoo
    have hlk : listed.getD k false = true := by rw [← hon]; exact hdep e he hb
    have hblk := h.boxes k z b h2 h3 hlk (fun j d hj => by
      have := h5 j d hj
      subst this
      exact hun')
    obtain ⟨w', hrun, hc, honly⟩ := hY st g w _ h.keep z b h2 h3 hblk
    rw [hsame]
    generalize (execOp (fill g 0 l ys a0).eval oj).run P w = r at *
    cases r with
    | ok nx w'' =>
      cases nx <;> simp only [stored] at hrun <;> simp only [Oper.upon]
      case skip =>
        subst hrun
        exact h.putted ok hi ho' hy hin hun' hdep hKe hpw hlk hc honly
    | halt x w'' => simp only [stored] at hrun
  | box b =>
    intro hY _
    simp only [Leave.isSkip, Bool.not_false, if_true]
    left
    unfold Oper.wp
    rw [hsame, hY st g w _ h.keep hkn]
    simp only [Oper.upon]
    exact h.block ok hi ho' hy hin hun' hdep rfl (fun s v e => by cases e) hKe hpw
  | row b n c =>
    intro hY _
    simp only [Leave.isSkip, Bool.not_false, if_true]
    left
    unfold Oper.wp
    rw [hsame, hY st g w _ h.keep hkn]
    simp only [Oper.upon]
    exact h.block ok hi ho' hy hin hun' hdep rfl (fun s v e => by cases e) hKe hpw

/-- Behind the whole region the frame is the full one. -/
theorem Telling.full {g : Nat → Nat} {st : Nat} {listed : Array Bool} {a : Act} {w : World} (ok : HeadOk l ys.length a0.tmps.size) (h : Telling K l ys a0 W g st listed a w) (hl : ∀ i, i < ys.length → listed.getD i false = true) : a = fill g 0 l ys a0 := by
  have hsz : a.tmps.size = (fill g 0 l ys a0).tmps.size := by rw [fill_size, h.size]
  have hslot : ∀ t, a.tmps.getD t undef = (fill g 0 l ys a0).tmps.getD t undef := by
    intro t
    by_cases hex : ∃ j p, j < ys.length ∧ l[j]? = some p ∧ p.dst = some t
    · obtain ⟨j, p, hj, hp, hpt⟩ := hex
      have hy : ys[j]? = some ys[j] := by simp [hj]
      rw [h.slot j p _ t hp hy (hl j hj) hpt, fill_slot g t 0 l ys a0 j p _ (ok.dst j p t hj hp hpt) hp hy hpt (fun k q hk hkj hq e => ok.apart j k p q hj hk hp hq (Ne.symm hkj) (by rw [hpt]; simp) (by rw [e, hpt])), Nat.zero_add]
    · rw [h.other t (fun j p hj hp _ e => hex ⟨j, p, hj, hp, e⟩), fill_other g t 0 l ys a0 (fun j p hj hp e => hex ⟨j, p, hj, hp, e⟩)]
  have ht : a.tmps = (fill g 0 l ys a0).tmps := by
    refine Array.ext hsz fun t h1 h2 => ?_
    have := hslot t
    simpa [h1, h2] using this
  have hdf : a.defers = (fill g 0 l ys a0).defers := by rw [fill_defers, h.defers]
  generalize fill g 0 l ys a0 = F at *
  cases a; cases F
  simp only at ht hdf
  subst ht hdf
  rfl

theorem listed_all {listed : Array Bool} (h : unlisted listed = 0) {i : Nat} (hi : i < listed.size) : listed.getD i false = true := by
  have h0 : listed.toList.countP (fun b => !b) = 0 := by unfold unlisted at h; simpa using h
  have := List.countP_eq_zero.1 h0 listed[i] (by simp)
  simpa [hi] using this

/-- A region that draws its order, all of it listed. -/
theorem wp_region_drawn {id : Nat} {Q : Exit → Act → World → Prop} (K : Nat → World → (Nat → Prop) → Prop) (n : Nat) (ys : List Leave) (hm : P.follows .mixedOrders = true)
    (hB : (Region.noSelect l.toArray && decide (ys.length = l.length) && headB l ys.length a0.tmps.size && putsB l ys && turnsB l ys n && earlyB l ys) = true)
    (hgd : guardsB l l ys ys = true) (hKe : Kept K) (h0 : K 0 { W with drawn := W.drawn + 1 } (fun _ => False))
    (hall : allLeave P K (fun g => fill g 0 l ys a0) ys W l ys)
    (hend : ∀ (g : Nat → Nat) (w' : World) (G : Nat → Prop), K n w' G → (∀ i y b, ys[i]? = some y → y.obj = some b → G (g i) ∧ W.heap.size ≤ g i ∧ g i < w'.heap.size ∧ ((∀ (j : Nat) (c : Obj), ys[j]? ≠ some (Leave.put i c)) → w'.heap[g i]? = some b)) →
      (∀ (j i : Nat) (c : Obj), ys[j]? = some (Leave.put i c) → w'.heap[g i]? = some c) →
      (∀ i j y z b c, i ≠ j → ys[i]? = some y → ys[j]? = some z → y.obj = some b → z.obj = some c → g i ≠ g j) → Q .normal (fill g 0 l ys a0) w') :
    (Code.region id l.toArray true).wp P Q a0 W := by
  simp only [Bool.and_eq_true, decide_eq_true_eq] at hB
  obtain ⟨⟨⟨⟨⟨hsel, hn⟩, hhead⟩, hpw⟩, htn⟩, hea⟩ := hB
  have ok := headOk hhead
  refine wp_region_any hm ?_
  have key : ∀ (f : Nat) (listed : Array Bool) (a : Act) (w : World) (g : Nat → Nat) (st : Nat), listed.size = l.length → unlisted listed = f → Telling K l ys a0 W g st listed a w → wpAny P .any l.toArray Q f listed a w := by
    intro f
    induction f with
    | zero =>
      intro listed a w g st hsz hu hb
      have hall' : ∀ i, i < ys.length → listed.getD i false = true := fun i hi => listed_all hu (by omega)
      refine wpAny_done ?_ ?_ 0
      · refine List.eq_nil_iff_forall_not_mem.2 fun i hi => ?_
        obtain ⟨hun, o, ho, -⟩ := mem_ready.1 hi
        have ho' : l[i]? = some o := by simpa using ho
        have hil := (List.getElem?_eq_some_iff.1 ho').1
        have := hall' i (by omega)
        rw [getD_both hun] at this
        cases this
      · rw [hb.full ok hall']
        have hst : st = n := by
          have h1 : st ≤ n := by
            rcases hb.stage with e | ⟨i, v, hi⟩
            · omega
            · have := (turns_at htn hi).1; omega
          rcases turns_last htn with e | ⟨i, v, hi⟩
          · omega
          · have := (hb.turns i (n - 1) v hi).1 (hall' i (List.getElem?_eq_some_iff.1 hi).1)
            omega
        subst hst
        refine hend g w _ hb.keep (fun i y b hi hy => ?_) (fun j i c hj => hb.puts j i c hj (hall' j (List.getElem?_eq_some_iff.1 hj).1)) (fun i j y z b c hij hi hj hy hz => hb.apart i j y z b c hij hi hj hy hz (hall' i (List.getElem?_eq_some_iff.1 hi).1) (hall' j (List.getElem?_eq_some_iff.1 hj).1))
        have hl := hall' i (List.getElem?_eq_some_iff.1 hi).1
        have h2 := hb.low i y b hi hy hl
        exact ⟨⟨i, y, b, hi, hy, hl, rfl⟩, h2.1, h2.2, fun hno => hb.boxes i y b hi hy hl (fun j c hj => absurd hj (hno j c))⟩
    | succ f ih =>
      intro listed a w g st hsz hu hb
      have hex : ∃ i, i < ys.length ∧ listed.getD i false = false := by
        refine Classical.byContradiction fun hno => ?_
        have h0 : listed.toList.countP (fun b => !b) = 0 := by
          rw [List.countP_eq_zero]
          intro b hb'
          obtain ⟨k, hk, rfl⟩ := List.getElem_of_mem hb'
          have hk2 : k < listed.size := by simpa using hk
          cases h : listed.getD k false with
          | true => simpa [hk2] using h
          | false => exact absurd ⟨k, by omega, h⟩ hno
        unfold unlisted at hu
        rw [h0] at hu
        cases hu
      have hleast : ∀ m : Nat, (∃ i, i < m ∧ i < ys.length ∧ listed.getD i false = false) → ∃ i, i < ys.length ∧ listed.getD i false = false ∧ ∀ j, j < i → listed.getD j false = true := by
        intro m
        induction m with
        | zero => rintro ⟨i, hi, _⟩; omega
        | succ m ih2 =>
          rintro ⟨i, hi, hiy, hil⟩
          by_cases hsm : ∃ j, j < m ∧ j < ys.length ∧ listed.getD j false = false
          · exact ih2 hsm
          · refine ⟨i, hiy, hil, fun j hj => ?_⟩
            cases h : listed.getD j false with
            | true => rfl
            | false => exact absurd ⟨j, by omega, by omega, h⟩ hsm
      obtain ⟨i, hi, hil, hlt⟩ := hleast ys.length (by obtain ⟨i, h1, h2⟩ := hex; exact ⟨i, h1, h1, h2⟩)
      have hready : i ∈ Region.ready .any l.toArray listed := by
        obtain ⟨o, ho⟩ := ok.there i hi
        exact mem_ready.2 ⟨getD_in (by omega) hil, o, by simpa using ho, fun e he hbd => hlt _ (ok.back i o hi ho e he hbd)⟩
      refine ⟨fun h0 => (by rw [h0] at hready; cases hready), fun j hj => ?_⟩
      have hjn : j < ys.length := by
        obtain ⟨-, o, ho, -⟩ := mem_ready.1 hj
        have ho' : l[j]? = some o := by simpa using ho
        have := (List.getElem?_eq_some_iff.1 ho').1
        omega
      refine wpOp_mono (fun a' w' ⟨g', st', hb'⟩ => ih _ a' w' g' st' (by simp [hsz]) ?_ hb') (hb.step ok hsel hgd hpw htn hea hKe hall (by simpa using hsz) hjn hj)
      have := unlisted_set (mem_ready.1 hj).1
      omega
  have hu : unlisted (Array.replicate l.toArray.size false) = l.toArray.size := by
    unfold unlisted
    rw [Array.toList_replicate, List.countP_replicate]
    simp
  refine key l.toArray.size _ a0 { W with drawn := W.drawn + 1 } (fun _ => 0) 0 (by simp) hu
    ⟨rfl, rfl, hKe.less _ _ _ _ h0 ?_, Nat.le_refl _, fun j oj _ hl => (by rw [getD_replicate_false] at hl; cases hl), fun _ _ => rfl, fun i o y d _ _ hl => (by rw [getD_replicate_false] at hl; cases hl), fun i y b _ _ hl => (by rw [getD_replicate_false] at hl; cases hl),
      fun i y b _ _ hl => (by rw [getD_replicate_false] at hl; cases hl), fun j i c _ hl => (by rw [getD_replicate_false] at hl; cases hl), fun i j y z b c _ _ _ _ _ hl => (by rw [getD_replicate_false] at hl; cases hl),
      fun i s v _ => ⟨fun hl => (by rw [getD_replicate_false] at hl; cases hl), fun hl => absurd hl (Nat.not_lt_zero _)⟩, .inl rfl⟩
  rintro k ⟨i, y, o, -, -, hl, -⟩
  rw [getD_replicate_false] at hl
  cases hl

/-- Nothing of before has turned; what was made here lies above. -/
def quiet (W : World) : Nat → World → (Nat → Prop) → Prop := fun _ w G => Below W.heap.size W w ∧ ∀ k, G k → W.heap.size ≤ k ∧ k < w.heap.size

theorem quiet_kept (W : World) : Kept (quiet W) where
  below := fun s w w' G G' ⟨h1, h2⟩ k hG => ⟨h1.trans (k.mono h1.size), fun j hj => by
    rcases hG j hj with e | e
    · have := h2 j e; have := k.size; omega
    · have := h1.size; omega⟩
  only := fun s w w' b G ⟨h1, h2⟩ hb ho => ⟨ho.below h1 (h2 b hb).1, fun j hj => by have := h2 j hj; rw [ho.size]; exact this⟩
  less := fun s w G G' ⟨h1, h2⟩ hG => ⟨h1, fun j hj => h2 j (hG j hj)⟩

theorem quiet_start (W : World) : quiet W 0 { W with drawn := W.drawn + 1 } (fun _ => False) := ⟨⟨rfl, rfl, rfl, Nat.le_refl _, fun _ _ => rfl⟩, fun _ h => h.elim⟩

end
end Draw
end Go.Proofs.YtfomhdhiibcdfaaGreat.More
