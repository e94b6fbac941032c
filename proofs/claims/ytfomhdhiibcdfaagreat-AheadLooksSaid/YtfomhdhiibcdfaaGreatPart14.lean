/- Texts of this proof that follow each other, in one file. -/
import Derived.Test.YtfomhdhiibcdfaaGreatPart1
import Derived.Test.YtfomhdhiibcdfaaGreatPart12
import Derived.Test.YtfomhdhiibcdfaaGreatPart13
/-! A law on regions that draw their order, over any program: operations that read, callees that only make memory, new blocks, guarded or not, in whichever order, ahead of a forced tail: of each is listed the value that it leaves, or what is said of it. -/
namespace Go.Proofs.YtfomhdhiibcdfaaGreat.More
open Go.RowKit Go.Sort

namespace Hold

/-- What an operation leaves: a value, one of which something is said, or nothing, as its guard says no. -/
inductive Leave where
  | val (v : Value)
  | some (R : World → Value → Prop)
  | skip

def Leave.value (y : Leave) (u : Value) : Value := match y with
  | .val v => v
  | .some _ => u
  | .skip => undef
def Leave.isSkip : Leave → Bool
  | .skip => true
  | _ => false

/-- What is said of a value goes on where nothing below is turned. -/
def Keeps (R : World → Value → Prop) : Prop := ∀ w w' u, Below w.heap.size w w' → R w u → R w' u

section
variable {P : Program}

/-- What is asked of an operation that leaves the value v: that it only reads, or that its callee only makes memory. -/
def stays (P : Program) (w : World) (v : Value) : Result Next → Prop
  | .ok (.value u) w' => w' = w ∧ u = v
  | .ok (.enter f args) w' => w' = w ∧ Calls P f args w (fun e w'' => e = .returned v ∧ Below w.heap.size w w'')
  | _ => False

theorem stays_call {w : World} {v : Value} {f : FuncId} {args : Array Value} (h : Calls P f args w (fun e w'' => e = .returned v ∧ Below w.heap.size w w'')) : stays P w v (.ok (.enter f args) w) := ⟨rfl, h⟩
theorem stays_val {w : World} {v : Value} : stays P w v (.ok (.value v) w) := ⟨rfl, rfl⟩

/-- What is asked of an operation of whose value R is said. -/
def gives (P : Program) (w : World) (R : World → Value → Prop) : Result Next → Prop
  | .ok (.value u) w' => Below w.heap.size w w' ∧ R w' u
  | .ok (.enter f args) w' => w' = w ∧ Calls P f args w (fun e w'' => ∃ u, e = .returned u ∧ R w'' u ∧ Below w.heap.size w w'')
  | _ => False

theorem gives_call {w : World} {R : World → Value → Prop} {f : FuncId} {args : Array Value} (h : Calls P f args w (fun e w'' => ∃ u, e = .returned u ∧ R w'' u ∧ Below w.heap.size w w'')) : gives P w R (.ok (.enter f args) w) := ⟨rfl, h⟩

/-- The frame with all that was left. -/
def fill (g : Nat → Value) : Nat → List Oper → List Leave → Act → Act
  | k, o :: os, y :: ys, a => fill g (k + 1) os ys (a.put o.dst (y.value (g k)))
  | _, _, _, a => a

/-- What is known of what an operation waits for. -/
def known (ys : List Leave) (o : Oper) (g : Nat → Value) (w : World) : Prop :=
  ∀ e ∈ o.after, Region.binds .any e = true → ∀ R, ys[e.on]? = some (.some R) → R w (g e.on)

def leaves (P : Program) (o : Oper) (F : (Nat → Value) → Act) (ys : List Leave) (W : World) : Leave → Prop
  | .val v => ∀ g w, Below W.heap.size W w → known ys o g w → stays P w v ((execOp (F g).eval o).run P w)
  | .some R => Keeps R ∧ ∀ g w, Below W.heap.size W w → known ys o g w → gives P w R ((execOp (F g).eval o).run P w)
  | .skip => True

def allLeave (P : Program) (F : (Nat → Value) → Act) (all : List Leave) (W : World) : List Oper → List Leave → Prop
  | o :: os, y :: ys => leaves P o F all W y ∧ allLeave P F all W os ys
  | _, _ => True

theorem allLeave_at {F : (Nat → Value) → Act} {all : List Leave} {W : World} : ∀ {os : List Oper} {ys : List Leave} {i : Nat} {o : Oper} {y : Leave}, allLeave P F all W os ys → os[i]? = some o → ys[i]? = some y → leaves P o F all W y
  | o :: os, y :: ys, 0, _, _, h, h1, h2 => by
    simp only [List.getElem?_cons_zero, Option.some.injEq] at h1 h2; subst h1 h2; exact h.1
  | o :: os, y :: ys, i + 1, _, _, h, h1, h2 => by
    simp only [List.getElem?_cons_succ] at h1 h2; exact allLeave_at h.2 h1 h2
  | [], _, _, _, _, _, h1, _ => by simp at h1
  | _ :: _, [], _, _, _, _, _, h2 => by simp at h2

theorem put_size (a : Act) (d : Option Tmp) (v : Value) : (a.put d v).tmps.size = a.tmps.size := by cases d <;> simp [Act.put]
theorem put_defers (a : Act) (d : Option Tmp) (v : Value) : (a.put d v).defers = a.defers := by cases d <;> rfl
theorem put_slot (a : Act) (d : Tmp) (v : Value) (h : d < a.tmps.size) : (a.put (some d) v).tmps.getD d undef = v := by simp [Act.put, h]
theorem put_other (a : Act) (d : Option Tmp) (v : Value) (t : Tmp) (h : d ≠ some t) : (a.put d v).tmps.getD t undef = a.tmps.getD t undef := by
  cases d with
  | none => rfl
  | some d =>
    have hne : d ≠ t := fun e => h (by rw [e])
    simp [Act.put, Array.getElem?_setIfInBounds_ne hne]

theorem fill_size (g : Nat → Value) : ∀ (k : Nat) (os : List Oper) (ys : List Leave) (a : Act), (fill g k os ys a).tmps.size = a.tmps.size
  | k, o :: os, y :: ys, a => by rw [fill, fill_size g (k + 1) os ys, put_size]
  | _, [], _, _ => rfl
  | _, _ :: _, [], _ => rfl
theorem fill_defers (g : Nat → Value) : ∀ (k : Nat) (os : List Oper) (ys : List Leave) (a : Act), (fill g k os ys a).defers = a.defers
  | k, o :: os, y :: ys, a => by rw [fill, fill_defers g (k + 1) os ys, put_defers]
  | _, [], _, _ => rfl
  | _, _ :: _, [], _ => rfl
theorem fill_other (g : Nat → Value) (t : Tmp) : ∀ (k : Nat) (os : List Oper) (ys : List Leave) (a : Act), (∀ i o, i < ys.length → os[i]? = some o → o.dst ≠ some t) → (fill g k os ys a).tmps.getD t undef = a.tmps.getD t undef
  | k, o :: os, y :: ys, a, h => by
    rw [fill, fill_other g t (k + 1) os ys _ (fun i o hi ho => h (i + 1) o (by simp; omega) (by simpa using ho)), put_other _ _ _ _ (h 0 o (by simp) rfl)]
  | _, [], _, _, _ => rfl
  | _, _ :: _, [], _, _ => rfl
theorem fill_slot (g : Nat → Value) (d : Tmp) : ∀ (k : Nat) (os : List Oper) (ys : List Leave) (a : Act) (i : Nat) (o : Oper) (y : Leave), d < a.tmps.size → os[i]? = some o → ys[i]? = some y → o.dst = some d →
    (∀ j p, j < ys.length → j ≠ i → os[j]? = some p → p.dst ≠ some d) → (fill g k os ys a).tmps.getD d undef = y.value (g (k + i))
  | k, o :: os, y :: ys, a, 0, _, _, hd, ho, hy, hdst, hne => by
    simp only [List.getElem?_cons_zero, Option.some.injEq] at ho hy
    subst ho hy
    rw [fill, fill_other g d (k + 1) os ys _ (fun i p hi hp => hne (i + 1) p (by simp; omega) (by omega) (by simpa using hp)), hdst, put_slot _ _ _ hd]
    rfl
  | k, o :: os, y :: ys, a, i + 1, o', y', hd, ho, hy, hdst, hne => by
    simp only [List.getElem?_cons_succ] at ho hy
    rw [fill, fill_slot g d (k + 1) os ys _ i o' y' (by rw [put_size]; exact hd) ho hy hdst (fun j p hj hji hp => hne (j + 1) p (by simp; omega) (by omega) (by simpa using hp))]
    congr 2
    omega
  | _, [], _, _, _, _, _, _, ho, _, _, _ => by simp at ho
  | _, _ :: _, [], _, _, _, _, _, _, hy, _, _ => by simp at hy

/-- What is asked of a region's text: of its first operations, that each writes a slot of its own and looks only at what it waits for. -/
def headB (l : List Oper) (n size : Nat) : Bool :=
  (List.range n).all fun i => match l[i]? with
    | none => false
    | some o => (match o.dst with | none => false | some d => decide (d < size)) && (o.after.all fun e => !Region.binds .any e || decide (e.on < i)) &&
      (List.range n).all fun j => match l[j]? with
        | none => false
        | some p => (decide (i = j) || p.dst != o.dst) &&
          (match p.dst with | none => false | some d => !(o.looksAt l.toArray).contains d || o.after.any (fun e => Region.binds .any e && e.on == j))

/-- .. that each guard is decided by what is listed. -/
def guardsB : List Oper → List Leave → List Leave → Bool
  | o :: os, y :: ys, all => (match o.guard with
    | none => !y.isSkip
    | some (k, b) => o.after.any (fun e => Region.binds .any e && e.on == k) && (match all[k]? with
      | some (.val (.bool c)) => (c == b) == !y.isSkip
      | _ => false)) && guardsB os ys all
  | _, _, _ => true

structure HeadOk (l : List Oper) (n size : Nat) : Prop where
  dst : ∀ i o, i < n → l[i]? = some o → ∃ d, o.dst = some d ∧ d < size
  back : ∀ i o, i < n → l[i]? = some o → ∀ e ∈ o.after, Region.binds .any e = true → e.on < i
  apart : ∀ i j o p, i < n → j < n → l[i]? = some o → l[j]? = some p → i ≠ j → p.dst ≠ o.dst
  looks : ∀ i j o p d, i < n → j < n → l[i]? = some o → l[j]? = some p → p.dst = some d → d ∈ o.looksAt l.toArray → ∃ e ∈ o.after, Region.binds .any e = true ∧ e.on = j
  there : ∀ i, i < n → ∃ o, l[i]? = some o

theorem headOk {l : List Oper} {n size : Nat} (h : headB l n size = true) : HeadOk l n size := by
  have key : ∀ i, i < n → ∃ o, l[i]? = some o ∧ (∃ d, o.dst = some d ∧ d < size) ∧ (∀ e ∈ o.after, Region.binds .any e = true → e.on < i) ∧
      ∀ j, j < n → ∃ p, l[j]? = some p ∧ (i ≠ j → p.dst ≠ o.dst) ∧ ∀ d, p.dst = some d → d ∈ o.looksAt l.toArray → ∃ e ∈ o.after, Region.binds .any e = true ∧ e.on = j := by
    intro i hi
    have h1 := List.all_eq_true.1 h i (List.mem_range.2 hi)
    cases ho : l[i]? with
    | none => rw [ho] at h1; cases h1
    | some o =>
      simp only [ho, Bool.and_eq_true] at h1
      obtain ⟨⟨h3, h4⟩, h5⟩ := h1
      refine ⟨o, rfl, ?_, ?_, ?_⟩
      · cases hd : o.dst with
        | none => rw [hd] at h3; cases h3
        | some d => rw [hd] at h3; exact ⟨d, rfl, by simpa using h3⟩
      · intro e he hb
        have := Array.all_eq_true'.1 h4 e he
        simpa [hb] using this
      · intro j hj
        have h6 := List.all_eq_true.1 h5 j (List.mem_range.2 hj)
        cases hp : l[j]? with
        | none => rw [hp] at h6; cases h6
        | some p =>
          simp only [hp, Bool.and_eq_true] at h6
          obtain ⟨h7, h8⟩ := h6
          refine ⟨p, rfl, fun hij => ?_, fun d hd hm => ?_⟩
          · have : (p.dst != o.dst) = true := by simpa [hij] using h7
            simpa using this
          · rw [hd] at h8
            have hc : (o.looksAt l.toArray).contains d = true := by simpa using hm
            simp only [hc, Bool.not_true, Bool.false_or] at h8
            obtain ⟨e, he, he2⟩ := Array.any_eq_true'.1 h8
            simp only [Bool.and_eq_true, beq_iff_eq] at he2
            exact ⟨e, he, he2⟩
  refine ⟨?_, ?_, ?_, ?_, ?_⟩
  · intro i o hi ho; obtain ⟨o', ho', h1, _⟩ := key i hi; rw [ho] at ho'; cases ho'; exact h1
  · intro i o hi ho; obtain ⟨o', ho', _, h1, _⟩ := key i hi; rw [ho] at ho'; cases ho'; exact h1
  · intro i j o p hi hj ho hp hij; obtain ⟨o', ho', _, _, h1⟩ := key i hi; rw [ho] at ho'; cases ho'
    obtain ⟨p', hp', h2, _⟩ := h1 j hj; rw [hp] at hp'; cases hp'; exact h2 hij
  · intro i j o p d hi hj ho hp hd hm; obtain ⟨o', ho', _, _, h1⟩ := key i hi; rw [ho] at ho'; cases ho'
    obtain ⟨p', hp', _, h2⟩ := h1 j hj; rw [hp] at hp'; cases hp'; exact h2 d hd hm
  · intro i hi; obtain ⟨o', ho', _⟩ := key i hi; exact ⟨o', ho'⟩

theorem guards_at : ∀ {os : List Oper} {ys all : List Leave} {i : Nat} {o : Oper} {y : Leave}, guardsB os ys all = true → os[i]? = some o → ys[i]? = some y →
    (o.guard = none ∧ y.isSkip = false) ∨ ∃ k b c, o.guard = some (k, b) ∧ (∃ e ∈ o.after, Region.binds .any e = true ∧ e.on = k) ∧ all[k]? = some (.val (.bool c)) ∧ ((c == b) = !y.isSkip)
  | o :: os, y :: ys, all, 0, _, _, h, h1, h2 => by
    simp only [List.getElem?_cons_zero, Option.some.injEq] at h1 h2
    subst h1 h2
    simp only [guardsB, Bool.and_eq_true] at h
    obtain ⟨h, _⟩ := h
    cases hg : o.guard with
    | none => rw [hg] at h; left; exact ⟨rfl, by simpa using h⟩
    | some kb =>
      obtain ⟨k, b⟩ := kb
      rw [hg] at h
      simp only [Bool.and_eq_true] at h
      obtain ⟨h3, h4⟩ := h
      obtain ⟨e, he, he2⟩ := Array.any_eq_true'.1 h3
      simp only [Bool.and_eq_true, beq_iff_eq] at he2
      right
      split at h4
      · rename_i c hc
        exact ⟨k, b, c, rfl, ⟨e, he, he2⟩, hc, by simpa using h4⟩
      · cases h4
  | o :: os, y :: ys, all, i + 1, _, _, h, h1, h2 => by
    simp only [List.getElem?_cons_succ] at h1 h2
    simp only [guardsB, Bool.and_eq_true] at h
    exact guards_at h.2 h1 h2
  | [], _, _, _, _, _, _, h1, _ => by simp at h1
  | _ :: _, [], _, _, _, _, _, _, h2 => by simp at h2

/-- The state of the region's head. -/
structure Telling (l : List Oper) (ys : List Leave) (a0 : Act) (W : World) (g : Nat → Value) (listed : Array Bool) (a : Act) (w : World) : Prop where
  size : a.tmps.size = a0.tmps.size
  defers : a.defers = a0.defers
  below : Below W.heap.size W w
  other : ∀ t, (∀ i o, i < ys.length → l[i]? = some o → listed.getD i false = true → o.dst ≠ some t) → a.tmps.getD t undef = a0.tmps.getD t undef
  slot : ∀ i o y d, l[i]? = some o → ys[i]? = some y → listed.getD i false = true → o.dst = some d → a.tmps.getD d undef = y.value (g i)
  held : ∀ i R, ys[i]? = some (.some R) → listed.getD i false = true → R w (g i)

/-- All that is said goes on. -/
def allKeep (ys : List Leave) : Prop := ∀ (i : Nat) R, ys[i]? = some (.some R) → Keeps R

theorem allKeep_of {P : Program} {F : (Nat → Value) → Act} {all : List Leave} {W : World} {os : List Oper} {ys : List Leave} (h : allLeave P F all W os ys) (hl : ∀ i, i < ys.length → ∃ o, os[i]? = some o) : allKeep ys := fun i R hi => by
  obtain ⟨o, ho⟩ := hl i (List.getElem?_eq_some_iff.1 hi).1
  have := allLeave_at h ho hi
  exact this.1

theorem getD_set_cases {listed : Array Bool} {i j : Nat} (h : (listed.setIfInBounds i true).getD j false = true) : j = i ∨ listed.getD j false = true := by
  by_cases hji : i = j
  · exact .inl hji.symm
  · rw [getD_set_ne false hji] at h; exact .inr h

variable {l : List Oper} {ys : List Leave} {a0 : Act} {W : World}

theorem eval_tmp (a : Act) (t : Tmp) : a.eval (.tmp t) = a.tmps.getD t undef := rfl

/-- An operation whose turn it is does in the frame at hand what it does in the full one. -/
theorem Telling.same {g : Nat → Value} {listed : Array Bool} {a : Act} {w : World} (ok : HeadOk l ys.length a0.tmps.size) (h : Telling l ys a0 W g listed a w) (hs : Region.noSelect l.toArray = true) {i : Nat} {o : Oper} (hi : i < ys.length) (ho : l[i]? = some o)
    (hd : ∀ e ∈ o.after, Region.binds .any e = true → listed.getD e.on false = true) : execOp a.eval o = execOp (fill g 0 l ys a0).eval o := by
  have hsel : ∀ cs b, o.op ≠ .select cs b := fun cs b => Region.noSelect_spec hs i o cs b (by simpa using ho)
  refine execOp_congr o hsel fun x hx => ?_
  cases x with
  | tmp t =>
    have hm : t ∈ o.looksAt l.toArray := List.mem_append_left _ (List.mem_filterMap.2 ⟨.tmp t, by simpa using hx, rfl⟩)
    rw [eval_tmp, eval_tmp]
    by_cases hex : ∃ j p, j < ys.length ∧ l[j]? = some p ∧ p.dst = some t
    · obtain ⟨j, p, hj, hp, hpt⟩ := hex
      obtain ⟨e, he, hb, hon⟩ := ok.looks i j o p t hi hj ho hp hpt hm
      have hlj : listed.getD j false = true := by rw [← hon]; exact hd e he hb
      have hy : ys[j]? = some ys[j] := by simp [hj]
      obtain ⟨d, hd1, hd2⟩ := ok.dst j p hj hp
      have htd : t = d := by rw [hd1] at hpt; exact (Option.some.inj hpt).symm
      rw [h.slot j p _ t hp hy hlj hpt, fill_slot g t 0 l ys a0 j p _ (by rw [htd]; exact hd2) hp hy hpt (fun k q hk hkj hq e => ok.apart j k p q hj hk hp hq (Ne.symm hkj) (by rw [e, hpt])), Nat.zero_add]
    · rw [h.other t (fun j p hj hp _ e => hex ⟨j, p, hj, hp, e⟩), fill_other g t 0 l ys a0 (fun j p hj hp e => hex ⟨j, p, hj, hp, e⟩)]
  | _ => rfl

/-- The state behind an operation. -/
theorem Telling.more {g : Nat → Value} {listed : Array Bool} {a : Act} {w w' : World} {i : Nat} {o : Oper} {y : Leave} {v u : Value} (ok : HeadOk l ys.length a0.tmps.size) (hk : allKeep ys) (h : Telling l ys a0 W g listed a w) (hi : i < ys.length) (ho : l[i]? = some o) (hy : ys[i]? = some y)
    (hin : i < listed.size) (hun : listed.getD i false = false) (hv : v = y.value u) (hR : ∀ R, y = .some R → R w' u) (hb : Below w.heap.size w w') : ∃ g', Telling l ys a0 W g' (listed.setIfInBounds i true) (a.put o.dst v) w' := by
  obtain ⟨d, hd1, hd2⟩ := ok.dst i o hi ho
  have hset : (listed.setIfInBounds i true).getD i false = true := by simp [hin]
  obtain ⟨gg, hgi, hgj⟩ : ∃ gg : Nat → Value, gg i = u ∧ ∀ j, j ≠ i → gg j = g j := ⟨fun j => if j = i then u else g j, by simp, fun j hj => by simp [hj]⟩
  refine ⟨gg, by rw [put_size, h.size], by rw [put_defers, h.defers], h.below.trans (hb.mono h.below.size), ?_, ?_, ?_⟩
  · intro t ht
    rw [put_other _ _ _ _ (ht i o hi ho hset)]
    refine h.other t fun j p hj hp hl => ht j p hj hp ?_
    by_cases hij : i = j
    · subst hij; rw [hun] at hl; cases hl
    · rw [getD_set_ne false hij]; exact hl
  · intro j p z t hp hyj hl ht
    by_cases hij : j = i
    · subst hij
      rw [ho] at hp; cases hp
      rw [hy] at hyj; cases hyj
      rw [hd1] at ht; cases ht
      rw [hd1, put_slot _ _ _ (by rw [h.size]; exact hd2), hgi, hv]
    · rcases getD_set_cases hl with e | hl'
      · exact absurd e hij
      · have hj : j < ys.length := (List.getElem?_eq_some_iff.1 hyj).1
        rw [put_other _ _ _ _ (fun e => ok.apart j i p o hj hi hp ho hij (by rw [e, ht])), h.slot j p z t hp hyj hl' ht, hgj j hij]
  · intro j R hj hl
    by_cases hij : j = i
    · subst hij
      rw [hy] at hj; cases hj
      rw [hgi]
      exact hR R rfl
    · rcases getD_set_cases hl with e | hl'
      · exact absurd e hij
      · rw [hgj j hij]
        exact hk j R hj w w' _ hb (h.held j R hj hl')

theorem Telling.step {g : Nat → Value} {listed : Array Bool} {a : Act} {w : World} {Q : Exit → Act → World → Prop} (ok : HeadOk l ys.length a0.tmps.size) (h : Telling l ys a0 W g listed a w) (hs : Region.noSelect l.toArray = true)
    (hgd : guardsB l ys ys = true) (hall : allLeave P (fun g => fill g 0 l ys a0) ys W l ys) (hsz : listed.size = l.toArray.size) {i : Nat} (hi : i < ys.length) (hr : i ∈ Region.ready .any l.toArray listed) :
    wpOp P l.toArray Q i (fun a' w' => ∃ g, Telling l ys a0 W g (listed.setIfInBounds i true) a' w') a w := by
  obtain ⟨hun, o, ho, hdep⟩ := mem_ready.1 hr
  have ho' : l[i]? = some o := by simpa using ho
  have hy : ys[i]? = some ys[i] := by simp [hi]
  have hsame := h.same ok hs hi ho' hdep
  have hY := allLeave_at hall ho' hy
  have hun' : listed.getD i false = false := getD_both hun
  have hin : i < listed.size := by
    rw [hsz]; simpa using (List.getElem?_eq_some_iff.1 ho').1
  have hkn : known ys o g w := fun e he hb R hye => h.held e.on R hye (hdep e he hb)
  have hkp : allKeep ys := allKeep_of hall ok.there
  have hw : Region.wanted o (yielded l.toArray a.tmps) = !(ys[i]).isSkip := by
    rcases guards_at hgd ho' hy with ⟨hg, hsk⟩ | ⟨k, b, c, hg, ⟨e, he, hb, hon⟩, hk, hcb⟩
    · simp [Region.wanted, hg, hsk]
    · have hlk : listed.getD k false = true := by rw [← hon]; exact hdep e he hb
      have hkl : k < ys.length := (List.getElem?_eq_some_iff.1 hk).1
      obtain ⟨p, hp⟩ := ok.there k hkl
      obtain ⟨d, hd1, hd2⟩ := ok.dst k p hkl hp
      have hsl := h.slot k p _ d hp hk hlk hd1
      have hda : d < a.tmps.size := by rw [h.size]; exact hd2
      have hyl : yielded l.toArray a.tmps k = some c := by
        unfold yielded
        simp only [List.getElem?_toArray, hp, Option.bind_some, hd1]
        have : a.tmps[d]? = some (.bool c) := by
          rw [Array.getElem?_eq_getElem hda]
          simpa [Leave.value, hda] using hsl
        rw [this]
      simp only [Region.wanted, hg, hyl]
      rw [← hcb]
      cases c <;> cases b <;> rfl
  unfold wpOp
  simp only [ho, hw]
  revert hY
  generalize hyi : ys[i] = y at *
  cases y with
  | skip =>
    intro _
    simp only [Leave.isSkip, Bool.not_true, Bool.false_eq_true, if_false]
    exact h.more (u := undef) ok hkp hi ho' hy hin hun' rfl (fun R e => by cases e) (Below.refl _ _)
  | val v =>
    intro hY
    simp only [Leave.isSkip, Bool.not_false, if_true]
    left
    unfold Oper.wp
    rw [hsame]
    have h3 := hY g w h.below hkn
    generalize (execOp (fill g 0 l ys a0).eval o).run P w = r at *
    cases r with
    | ok nx w' =>
      cases nx <;> simp only [stays] at h3 <;> simp only [Oper.upon]
      case value u =>
        obtain ⟨rfl, rfl⟩ := h3
        exact h.more (u := undef) ok hkp hi ho' hy hin hun' rfl (fun R e => by cases e) (Below.refl _ _)
      case enter f args =>
        obtain ⟨rfl, hc⟩ := h3
        refine hc.mono fun e w'' ⟨he, hb⟩ => ?_
        subst he
        exact h.more (u := undef) ok hkp hi ho' hy hin hun' rfl (fun R e => by cases e) hb
    | halt x w' => simp only [stays] at h3
  | some R =>
    intro hY
    simp only [Leave.isSkip, Bool.not_false, if_true]
    left
    unfold Oper.wp
    rw [hsame]
    have h3 := hY.2 g w h.below hkn
    generalize (execOp (fill g 0 l ys a0).eval o).run P w = r at *
    cases r with
    | ok nx w' =>
      cases nx <;> simp only [gives] at h3 <;> simp only [Oper.upon]
      case value u =>
        obtain ⟨hb, hr⟩ := h3
        exact h.more (u := u) ok hkp hi ho' hy hin hun' rfl (fun R e => by cases e; exact hr) hb
      case enter f args =>
        obtain ⟨rfl, hc⟩ := h3
        refine hc.mono fun e w'' ⟨u, he, hr, hb⟩ => ?_
        subst he
        exact h.more (u := u) ok hkp hi ho' hy hin hun' rfl (fun R e => by cases e; exact hr) hb
    | halt x w' => simp only [gives] at h3

/-- Behind the whole head the frame is the full one. -/
theorem Telling.full {g : Nat → Value} {listed : Array Bool} {a : Act} {w : World} (ok : HeadOk l ys.length a0.tmps.size) (h : Telling l ys a0 W g listed a w) (hl : ∀ i, i < ys.length → listed.getD i false = true) : a = fill g 0 l ys a0 := by
  have hsz : a.tmps.size = (fill g 0 l ys a0).tmps.size := by rw [fill_size, h.size]
  have hslot : ∀ t, a.tmps.getD t undef = (fill g 0 l ys a0).tmps.getD t undef := by
    intro t
    by_cases hex : ∃ j p, j < ys.length ∧ l[j]? = some p ∧ p.dst = some t
    · obtain ⟨j, p, hj, hp, hpt⟩ := hex
      have hy : ys[j]? = some ys[j] := by simp [hj]
      obtain ⟨d, hd1, hd2⟩ := ok.dst j p hj hp
      have htd : t = d := by rw [hd1] at hpt; exact (Option.some.inj hpt).symm
      rw [h.slot j p _ t hp hy (hl j hj) hpt, fill_slot g t 0 l ys a0 j p _ (by rw [htd]; exact hd2) hp hy hpt (fun k q hk hkj hq e => ok.apart j k p q hj hk hp hq (Ne.symm hkj) (by rw [e, hpt])), Nat.zero_add]
    · rw [h.other t (fun j p hj hp _ e => hex ⟨j, p, hj, hp, e⟩), fill_other g t 0 l ys a0 (fun j p hj hp e => hex ⟨j, p, hj, hp, e⟩)]
  have ht : a.tmps = (fill g 0 l ys a0).tmps := by
    refine Array.ext hsz fun t h1 h2 => ?_
    have := hslot t
    simpa [h1, h2] using this
  have hdf : a.defers = (fill g 0 l ys a0).defers := by rw [fill_defers, h.defers]
  generalize fill g 0 l ys a0 = F at *
  cases a; cases F
  simp only at ht hdf
  subst ht hdf
  rfl

/-- A region that draws its order: the operations of its head leave what is listed; then its tail, one by one. -/
theorem wp_region_hold {id : Nat} {Q : Exit → Act → World → Prop} (ys : List Leave) (hm : P.follows .mixedOrders = true)
    (hB : (Region.noSelect l.toArray && decide (ys.length < l.toArray.size) && Region.sinkB .any l.toArray ys.length && Region.chainB .any l.toArray ys.length &&
      Region.seqB .any l.toArray (l.toArray.size - ys.length) ys.length ((List.replicate ys.length true ++ List.replicate (l.toArray.size - ys.length) false).toArray) && headB l ys.length a0.tmps.size) = true)
    (hgd : guardsB l ys ys = true)
    (hall : allLeave P (fun g => fill g 0 l ys a0) ys W l ys)
    (hend : ∀ (g : Nat → Value) (w' : World), Below W.heap.size W w' → (∀ (i : Nat) R, ys[i]? = some (.some R) → R w' (g i)) → wpList P l.toArray Q (l.drop ys.length) (fill g 0 l ys a0) w') :
    (Code.region id l.toArray true).wp P Q a0 W := by
  simp only [Bool.and_eq_true, decide_eq_true_eq] at hB
  obtain ⟨⟨⟨⟨⟨hsel, hn⟩, hs⟩, hc⟩, hseq⟩, hhead⟩ := hB
  have ok := headOk hhead
  have hn' : ys.length < l.length := by simpa using hn
  have hdl : (l.drop ys.length).length = l.toArray.size - ys.length := by simp
  refine wp_region_any hm ?_
  have key : ∀ (f : Nat) (listed : Array Bool) (a : Act) (w : World) (g : Nat → Value), HeadInv .any l.toArray ys.length listed → unlisted listed = f + (l.toArray.size - ys.length) → Telling l ys a0 W g listed a w →
      wpAny P .any l.toArray Q (f + (l.toArray.size - ys.length)) listed a w := by
    intro f
    induction f with
    | zero =>
      intro listed a w g inv hu hb
      have hls : listed.size = l.length := by have := inv.size; simpa using this
      -- all of the head has come up
      have hcount : listed.toList.countP (fun b => !b) = l.length - ys.length := by
        unfold unlisted at hu; simpa using hu
      have htail : listed.toList.drop ys.length = List.replicate (l.length - ys.length) false := by
        refine List.ext_getElem (by simp [hls]) fun k h1 h2 => ?_
        have hk : ys.length + k < listed.size := by simp at h1; omega
        have := inv.tail (ys.length + k) (by omega) (by rw [← inv.size]; exact hk)
        simpa [hk] using this
      have hsplit : listed.toList = listed.toList.take ys.length ++ List.replicate (l.length - ys.length) false := by rw [← htail, List.take_append_drop]
      have hh : (listed.toList.take ys.length).countP (fun b => !b) = 0 := by
        rw [hsplit, List.countP_append] at hcount
        have hr : (List.replicate (l.length - ys.length) false).countP (fun b => !b) = l.length - ys.length := by rw [List.countP_replicate]; simp
        rw [hr] at hcount
        omega
      have hhead : listed.toList.take ys.length = List.replicate ys.length true := by
        have hlen : (listed.toList.take ys.length).length = ys.length := by simp [hls]; omega
        rw [List.eq_replicate_iff]
        refine ⟨hlen, fun b hb => ?_⟩
        have := List.countP_eq_zero.1 hh b hb
        simpa using this
      have hlisted : listed = (List.replicate ys.length true ++ List.replicate (l.toArray.size - ys.length) false).toArray := by
        have h1 : listed = listed.toList.toArray := by simp
        rw [h1, hsplit, hhead]
        simp
      have hall' : ∀ i, i < ys.length → listed.getD i false = true := by
        intro i hi
        rw [hlisted, Array.getD_eq_getD_getElem?, List.getElem?_toArray, List.getElem?_append_left (by simpa using hi)]
        simp [hi]
      have hfull := hb.full ok hall'
      have := wpAny_of_seq (P := P) (ops := l.toArray) (md := .any) (Q' := Q) (l.drop ys.length) ys.length listed a w (fun j => by simp [List.getElem?_drop]) (by rw [hdl, hlisted]; exact hseq) (by
        rw [hfull]
        exact hend g w hb.below (fun i R hi => hb.held i R hi (hall' i (List.getElem?_eq_some_iff.1 hi).1)))
      rwa [hdl, ← Nat.zero_add (l.toArray.size - ys.length)] at this
    | succ f ih =>
      intro listed a w g inv hu hb
      -- the first one of the head that has not come up
      have hex : ∃ i, i < ys.length ∧ listed.getD i false = false := by
        refine Classical.byContradiction fun hno => ?_
        have hno' : ∀ i, i < ys.length → listed.getD i false = true := fun i hi => by
          cases h : listed.getD i false with
          | true => rfl
          | false => exact absurd ⟨i, hi, h⟩ hno
        have hls : listed.size = l.length := by have := inv.size; simpa using this
        have h0 : (listed.toList.take ys.length).countP (fun b => !b) = 0 := by
          rw [List.countP_eq_zero]
          intro b hb'
          obtain ⟨k, hk, rfl⟩ := List.getElem_of_mem hb'
          have hk1 : k < ys.length := by simp at hk; omega
          have hk2 : k < listed.size := by omega
          have := hno' k hk1
          simpa [hk2] using this
        have h1 := List.countP_le_length (p := fun b => !b) (l := listed.toList.drop ys.length)
        have h2 : unlisted listed = (listed.toList.take ys.length).countP (fun b => !b) + (listed.toList.drop ys.length).countP (fun b => !b) := by
          unfold unlisted; rw [← List.countP_append, List.take_append_drop]
        simp only [List.length_drop, Array.length_toList, hls] at h1
        have h3 : l.toArray.size = l.length := by simp
        omega
      have hleast : ∀ m : Nat, (∃ i, i < m ∧ i < ys.length ∧ listed.getD i false = false) → ∃ i, i < ys.length ∧ listed.getD i false = false ∧ ∀ j, j < i → listed.getD j false = true := by
        intro m
        induction m with
        | zero => rintro ⟨i, hi, _⟩; omega
        | succ m ih2 =>
          rintro ⟨i, hi, hiy, hil⟩
          by_cases hsm : ∃ j, j < m ∧ j < ys.length ∧ listed.getD j false = false
          · exact ih2 hsm
          · refine ⟨i, hiy, hil, fun j hj => ?_⟩
            cases h : listed.getD j false with
            | true => rfl
            | false => exact absurd ⟨j, by omega, by omega, h⟩ hsm
      obtain ⟨i, hi, hil, hlt⟩ := hleast ys.length (by obtain ⟨i, h1, h2⟩ := hex; exact ⟨i, h1, h1, h2⟩)
      have hsize : ∀ k, k < ys.length → k < listed.size := fun k hk => by rw [inv.size]; omega
      have hready : i ∈ Region.ready .any l.toArray listed := by
        obtain ⟨o, ho⟩ := ok.there i hi
        exact mem_ready.2 ⟨getD_in (hsize i hi) hil, o, by simpa using ho, fun e he hbd => hlt _ (ok.back i o hi ho e he hbd)⟩
      rw [show f + 1 + (l.toArray.size - ys.length) = (f + (l.toArray.size - ys.length)) + 1 by omega]
      refine ⟨fun h0 => (by rw [h0] at hready; cases hready), fun j hj => ?_⟩
      have hjn : j < ys.length := by
        rcases Nat.lt_or_ge j ys.length with h | h
        · exact h
        · exact absurd hj (tail_waits hs hc hn inv _ i rfl hi (getD_in (hsize i hi) hil) j h)
      refine wpOp_mono (fun a' w' ⟨g', hb'⟩ => ih _ a' w' g' (inv.set hj hjn) ?_ hb') (hb.step ok hsel hgd hall inv.size hjn hj)
      have := unlisted_set (mem_ready.1 hj).1
      omega
  have inv0 : HeadInv .any l.toArray ys.length (Array.replicate l.toArray.size false) :=
    ⟨by simp, fun j oj _ hl => (by rw [getD_replicate_false] at hl; cases hl), fun t _ ht => getD_in (by simpa using ht) (getD_replicate_false _ _)⟩
  have hu : unlisted (Array.replicate l.toArray.size false) = ys.length + (l.toArray.size - ys.length) := by
    unfold unlisted
    rw [Array.toList_replicate, List.countP_replicate]
    simp
    omega
  have := key ys.length _ a0 { W with drawn := W.drawn + 1 } (fun _ => undef) inv0 hu
    ⟨rfl, rfl, ⟨rfl, rfl, rfl, Nat.le_refl _, fun _ _ => rfl⟩, fun _ _ => rfl, fun i o y d _ _ hl => (by rw [getD_replicate_false] at hl; cases hl), fun i R _ hl => (by rw [getD_replicate_false] at hl; cases hl)⟩
  rwa [show ys.length + (l.toArray.size - ys.length) = l.toArray.size by omega] at this

end
end Hold
end Go.Proofs.YtfomhdhiibcdfaaGreat.More

/-! The law of Hold, of a region all of whose operations may come in whichever order: there is no tail. -/
namespace Go.Proofs.YtfomhdhiibcdfaaGreat.More
open Go.RowKit Go.Sort Go.Proofs.YtfomhdhiibcdfaaGreat.More.Hold

namespace HoldAll

variable {P : Program} {l : List Oper} {ys : List Leave} {a0 : Act} {W : World}

theorem listed_all {listed : Array Bool} (h : unlisted listed = 0) {i : Nat} (hi : i < listed.size) : listed.getD i false = true := by
  have h0 : listed.toList.countP (fun b => !b) = 0 := by unfold unlisted at h; simpa using h
  have := List.countP_eq_zero.1 h0 listed[i] (by simp)
  simpa [hi] using this

/-- A region that draws its order, without a tail. -/
theorem wp_region_hold_all {id : Nat} {Q : Exit → Act → World → Prop} (ys : List Leave) (hm : P.follows .mixedOrders = true)
    (hB : (Region.noSelect l.toArray && decide (ys.length = l.length) && headB l ys.length a0.tmps.size) = true)
    (hgd : guardsB l ys ys = true)
    (hall : allLeave P (fun g => fill g 0 l ys a0) ys W l ys)
    (hend : ∀ (g : Nat → Value) (w' : World), Below W.heap.size W w' → (∀ (i : Nat) R, ys[i]? = some (.some R) → R w' (g i)) → Q .normal (fill g 0 l ys a0) w') :
    (Code.region id l.toArray true).wp P Q a0 W := by
  simp only [Bool.and_eq_true, decide_eq_true_eq] at hB
  obtain ⟨⟨hsel, hn⟩, hhead⟩ := hB
  have ok := headOk hhead
  refine wp_region_any hm ?_
  have key : ∀ (f : Nat) (listed : Array Bool) (a : Act) (w : World) (g : Nat → Value), listed.size = l.length → unlisted listed = f → Telling l ys a0 W g listed a w → wpAny P .any l.toArray Q f listed a w := by
    intro f
    induction f with
    | zero =>
      intro listed a w g hsz hu hb
      have hall' : ∀ i, i < ys.length → listed.getD i false = true := fun i hi => listed_all hu (by omega)
      refine wpAny_done ?_ ?_ 0
      · refine List.eq_nil_iff_forall_not_mem.2 fun i hi => ?_
        obtain ⟨hun, o, ho, -⟩ := mem_ready.1 hi
        have ho' : l[i]? = some o := by simpa using ho
        have hil := (List.getElem?_eq_some_iff.1 ho').1
        have := hall' i (by omega)
        rw [getD_both hun] at this
        cases this
      · rw [hb.full ok hall']
        exact hend g w hb.below (fun i R hi => hb.held i R hi (hall' i (List.getElem?_eq_some_iff.1 hi).1))
    | succ f ih =>
      intro listed a w g hsz hu hb
      have hex : ∃ i, i < ys.length ∧ listed.getD i false = false := by
        refine Classical.byContradiction fun hno => ?_
        have h0 : listed.toList.countP (fun b => !b) = 0 := by
          rw [List.countP_eq_zero]
          intro b hb'
          obtain ⟨k, hk, rfl⟩ := List.getElem_of_mem hb'
          have hk2 : k < listed.size := by simpa using hk
          cases h : listed.getD k false with
          | true => simpa [hk2] using h
          | false => exact absurd ⟨k, by omega, h⟩ hno
        unfold unlisted at hu
        rw [h0] at hu
        cases hu
      have hleast : ∀ m : Nat, (∃ i, i < m ∧ i < ys.length ∧ listed.getD i false = false) → ∃ i, i < ys.length ∧ listed.getD i false = false ∧ ∀ j, j < i → listed.getD j false = true := by
        intro m
        induction m with
        | zero => rintro ⟨i, hi, _⟩; omega
        | succ m ih2 =>
          rintro ⟨i, hi, hiy, hil⟩
          by_cases hsm : ∃ j, j < m ∧ j < ys.length ∧ listed.getD j false = false
          · exact ih2 hsm
          · refine ⟨i, hiy, hil, fun j hj => ?_⟩
            cases h : listed.getD j false with
            | true => rfl
            | false => exact absurd ⟨j, by omega, by omega, h⟩ hsm
      obtain ⟨i, hi, hil, hlt⟩ := hleast ys.length (by obtain ⟨i, h1, h2⟩ := hex; exact ⟨i, h1, h1, h2⟩)
      have hready : i ∈ Region.ready .any l.toArray listed := by
        obtain ⟨o, ho⟩ := ok.there i hi
        exact mem_ready.2 ⟨getD_in (by omega) hil, o, by simpa using ho, fun e he hbd => hlt _ (ok.back i o hi ho e he hbd)⟩
      refine ⟨fun h0 => (by rw [h0] at hready; cases hready), fun j hj => ?_⟩
      have hjn : j < ys.length := by
        obtain ⟨-, o, ho, -⟩ := mem_ready.1 hj
        have ho' : l[j]? = some o := by simpa using ho
        have := (List.getElem?_eq_some_iff.1 ho').1
        omega
      refine wpOp_mono (fun a' w' ⟨g', hb'⟩ => ih _ a' w' g' (by simp [hsz]) ?_ hb') (hb.step ok hsel hgd hall (by simpa using hsz) hjn hj)
      have := unlisted_set (mem_ready.1 hj).1
      omega
  have hu : unlisted (Array.replicate l.toArray.size false) = l.toArray.size := by
    unfold unlisted
    rw [Array.toList_replicate, List.countP_replicate]
    simp
  exact key l.toArray.size _ a0 { W with drawn := W.drawn + 1 } (fun _ => undef) (by simp) hu
    ⟨rfl, rfl, ⟨rfl, rfl, rfl, Nat.le_refl _, fun _ _ => rfl⟩, fun _ _ => rfl, fun i o y d _ _ hl => (by rw [getD_replicate_false] at hl; cases hl), fun i R _ hl => (by rw [getD_replicate_false] at hl; cases hl)⟩

end HoldAll

end Go.Proofs.YtfomhdhiibcdfaaGreat.More

/-! A spot as five values; the contracts of the program's small functions on it. -/
namespace Go.Proofs.YtfomhdhiibcdfaaGreat.Spot
open Go.RowKit Go.Sort Go.Proofs.YtfomhdhiibcdfaaGreat.Strut Go.Proofs.YtfomhdhiibcdfaaGreat.More
set_option linter.unusedVariables false
set_option linter.unusedSimpArgs false

/-- A spot: how far down, the greatest and the least margin, held, spent. -/
structure Sp where
  y : Int
  p : Int
  q : Int
  h : Bool
  s : Bool
abbrev Sp.v (x : Sp) : Value := .agg #[.int .i64 x.y, .int .i64 x.p, .int .i64 x.q, .bool x.h, .bool x.s]
abbrev sprow (x : Sp) : List Value := [.int .i64 x.y, .int .i64 x.p, .int .i64 x.q, .bool x.h, .bool x.s]
def SAt (w : World) (b : Nat) (x : Sp) : Prop :=
  w.cell? ⟨b, 0, none⟩ = some (.int .i64 x.y) ∧ w.cell? ⟨b, 1, none⟩ = some (.int .i64 x.p) ∧ w.cell? ⟨b, 2, none⟩ = some (.int .i64 x.q) ∧ w.cell? ⟨b, 3, none⟩ = some (.bool x.h) ∧ w.cell? ⟨b, 4, none⟩ = some (.bool x.s)
theorem sat_of {w : World} {b : Nat} {x : Sp} (h : Lies w b (sprow x)) : SAt w b x := ⟨h.at' 0, h.at' 1, h.at' 2, h.at' 3, h.at' 4⟩
def SFr (w : World) (b : Nat) : Prop :=
  w.frozen? ⟨b, 0, none⟩ = false ∧ w.frozen? ⟨b, 1, none⟩ = false ∧ w.frozen? ⟨b, 2, none⟩ = false ∧ w.frozen? ⟨b, 3, none⟩ = false ∧ w.frozen? ⟨b, 4, none⟩ = false
theorem sfr_of {w : World} {b : Nat} {xs : List Value} (h : Lies w b xs) : SFr w b := ⟨h.frz 0, h.frz 1, h.frz 2, h.frz 3, h.frz 4⟩
abbrev zeroSp : Sp := ⟨0, 0, 0, false, false⟩
abbrev atS (x : Sp) : Int := bif x.s then x.y else x.y + (x.p + x.q)
abbrev withS (x : Sp) (m : Int) : Sp := ⟨x.y, max x.p m, min x.q m, x.h, x.s⟩
abbrev fixS (x : Sp) (e : Int) : Sp := ⟨atS x + e, 0, 0, false, false⟩
abbrev passS (x : Sp) (m : Int) : Sp := bif x.s then ⟨x.y - (x.p + x.q), max x.p m, min x.q m, true, false⟩ else withS x m
abbrev belowS (y m : Int) : Sp := ⟨y, max 0 m, min 0 m, false, false⟩
abbrev clearedS (y m : Int) : Sp := ⟨y, max 0 m, min 0 m, false, true⟩

/-- A spot whose numbers are not great. -/
def FineS (x : Sp) : Prop := (-4611686018427387904 ≤ x.y ∧ x.y ≤ 4611686018427387904) ∧ (-1152921504606846976 ≤ x.p ∧ x.p ≤ 1152921504606846976) ∧ (-1152921504606846976 ≤ x.q ∧ x.q ≤ 1152921504606846976)

set_option maxHeartbeats 400000 in
theorem gwith_any (x : Sp) (m : Int) (w : World) :
    Calls Tryz.prog 44 #[x.v, .int .i64 m] w fun e w' => e = .returned (withS x m).v ∧ Below w.heap.size w w' := by
  obtain ⟨y, p, q, h, s⟩ := x
  go_enter Tryz.func44, Tryz.ntmps44
  go_upto_region 1 with fail
  generalize hW : World.alloc _ _ = W
  obtain ⟨b0, hb0⟩ : ∃ b0, w.heap.size = b0 := ⟨_, rfl⟩
  have k1 : Below w.heap.size w W := by rw [← hW]; exact ba2 _ _ _
  have z0 : Lies W b0 (sprow ⟨y, p, q, h, s⟩) := by rw [← hW, ← hb0]; exact (Lies.new w _ _).below (by simp) (ba1 _ _)
  have z1 : Lies W (b0 + 1) (sprow zeroSp) := by rw [← hW, ← hb0]; have := Lies.new (w.alloc (.cells #[.int .i64 y, .int .i64 p, .int .i64 q, .bool h, .bool s] 40)) (sprow zeroSp) 40; simp at this; exact this
  rw [hb0]
  obtain ⟨c0, c1, c2, c3, c4⟩ := sat_of z0
  have K1 := Lib.hid (⟨k1, z0, z1, (by omega : w.heap.size ≤ b0)⟩ : Below w.heap.size w W ∧ Lies W b0 (sprow ⟨y, p, q, h, s⟩) ∧ Lies W (b0 + 1) (sprow zeroSp) ∧ w.heap.size ≤ b0)
  clear hW k1 z0 z1 hb0
  go_wp2_with fail
  refine (with_any _ _ _ _).mono ?_; rintro e w1 ⟨rfl, hb⟩
  have z0 := K1.out.2.1.below (by simp) hb
  have z1 := K1.out.2.2.1.below (by simp) hb
  clear c0 c1 c2 c3 c4
  obtain ⟨c0, c1, c2, c3, c4⟩ := sat_of z0
  obtain ⟨f0, f1, f2, f3, f4⟩ := sfr_of z0
  obtain ⟨d0, d1, d2, d3, d4⟩ := sat_of z1
  obtain ⟨g0, g1, g2, g3, g4⟩ := sfr_of z1
  have K2 := Lib.hid (⟨thru K1.out.1 hb, K1.out.2.2.2⟩ : Below w.heap.size w w1 ∧ w.heap.size ≤ b0)
  clear K1 hb z0 z1
  go_wp2_with fail
  refine bodyPost_ret (v := Sp.v ⟨y, max p m, min q m, h, s⟩) (by simp [results, Tryz.results44, go_sem, d0, d1, d2, d3, d4]) rfl ⟨rfl, ?_⟩
  have hle := K2.out.2
  repeat refine Below.setCell ?_ (by simp <;> omega) _
  exact K2.out.1

-- the rest is written by gbase.py
set_option maxHeartbeats 400000 in
theorem gat_any (x : Sp) (hx : FineS x) (w : World) :
    Calls Tryz.prog 20 #[x.v] w fun e w' => e = .returned (.int .i64 (atS x)) ∧ Below w.heap.size w w' := by
  obtain ⟨y, p, q, h, s⟩ := x
  obtain ⟨⟨y1, y2⟩, ⟨p1, p2⟩, q1, q2⟩ := hx
  dsimp only at y1 y2 p1 p2 q1 q2
  have hwr : IntKind.i64.wrap (y + (p + q)) = y + (p + q) := IntWalk.i64_in _ (by omega)
  go_enter Tryz.func20, Tryz.ntmps20
  cases s with
  | true =>
    go_wp2_with fail
    go_ret
    exact ⟨rfl, ba1 _ _⟩
  | false =>
    go_upto_region 3 with fail
    generalize hW : World.alloc _ _ = W
    obtain ⟨b0, hb0⟩ : ∃ b0, w.heap.size = b0 := ⟨_, rfl⟩
    have k1 : Below w.heap.size w W := by rw [← hW]; exact ba1 _ _
    have z0 : Lies W b0 (sprow ⟨y, p, q, h, false⟩) := by rw [← hW, ← hb0]; exact Lies.new w _ _
    try rw [hb0]
    have K1 := Lib.hid k1
    have HZ := Lib.hid (fun w' (j : Below W.heap.size W w') => z0.below (by simp) j)
    clear hW k1 z0 hb0
    refine Hold.wp_region_hold [.val (.pointer (some ⟨b0, 0, none⟩)), .val (.int .i64 y), .val (.pointer (some ⟨b0, 1, none⟩)), .val (.agg #[.int .i64 p, .int .i64 q]), .val (.int .i64 (p + q)), .val (.int .i64 ((y + (p + q))))] (by kernel_rfl) (by kernel_rfl) (by kernel_rfl) ?_ ?_
    · simp only [Hold.fill, Hold.Leave.value]
      refine ⟨?_, ?_, ?_, ?_, ?_, ?_, trivial⟩
      · intro gg w' hw hk
        go_simp
        exact ⟨rfl, rfl⟩
      · intro gg w' hw hk
        have q0 : w'.cell? ⟨b0, 0, none⟩ = some (.int .i64 y) := (HZ.out w' hw).at' 0
        go_simp
        exact ⟨rfl, rfl⟩
      · intro gg w' hw hk
        go_simp
        exact ⟨rfl, rfl⟩
      · intro gg w' hw hk
        have q0 : w'.cell? ⟨b0, 1, none⟩ = some (.int .i64 p) := (HZ.out w' hw).at' 1
        have q1 : w'.cell? ⟨b0, 2, none⟩ = some (.int .i64 q) := (HZ.out w' hw).at' 2
        go_simp
        exact ⟨rfl, rfl⟩
      · intro gg w' hw hk
        go_simp
        exact Hold.stays_call (sum_any p q ⟨p1, p2⟩ ⟨q1, q2⟩ w')
      · intro gg w' hw hk
        go_simp
        exact ⟨rfl, rfl⟩
    intro gg w3 k3 hgg
    clear hgg
    simp only [Hold.fill, Hold.Leave.value, List.length_cons, List.length_nil, List.drop_succ_cons, List.drop_zero]
    go_simp
    go_wp2_with fail
    go_ret
    exact ⟨rfl, thru K1.out k3⟩

theorem atS_b {x : Sp} (hx : FineS x) : -6917529027641081856 ≤ atS x ∧ atS x ≤ 6917529027641081856 := by
  obtain ⟨y, p, q, h, s⟩ := x
  obtain ⟨⟨y1, y2⟩, ⟨p1, p2⟩, q1, q2⟩ := hx
  dsimp only at y1 y2 p1 p2 q1 q2
  unfold atS; cases s <;> simp <;> omega

end Go.Proofs.YtfomhdhiibcdfaaGreat.Spot

/-! The document's spots (margins in a list of one's own): the contracts of its functions. -/
namespace Go.Proofs.YtfomhdhiibcdfaaGreat.Spot
open Go.RowKit Go.Sort Go.Proofs.YtfomhdhiibcdfaaGreat.Strut Go.Proofs.YtfomhdhiibcdfaaGreat.More
set_option linter.unusedVariables false
set_option linter.unusedSimpArgs false

/-- A document's spot. -/
structure Rp where
  y : Int
  ms : List Int
  h : Bool
  s : Bool
abbrev rpv (x : Rp) (A : Option Addr) (n c : Nat) : Value := .agg #[.int .i64 x.y, .slice A n c, .bool x.h, .bool x.s]
abbrev rprow (x : Rp) (A : Option Addr) (n c : Nat) : List Value := [.int .i64 x.y, .slice A n c, .bool x.h, .bool x.s]
def RAt (w : World) (b : Nat) (x : Rp) (A : Option Addr) (n c : Nat) : Prop :=
  w.cell? ⟨b, 0, none⟩ = some (.int .i64 x.y) ∧ w.cell? ⟨b, 1, none⟩ = some (.slice A n c) ∧ w.cell? ⟨b, 2, none⟩ = some (.bool x.h) ∧ w.cell? ⟨b, 3, none⟩ = some (.bool x.s)
theorem rat_of {w : World} {b : Nat} {x : Rp} {A : Option Addr} {n c : Nat} (h : Lies w b (rprow x A n c)) : RAt w b x A n c := ⟨h.at' 0, h.at' 1, h.at' 2, h.at' 3⟩
def RFr (w : World) (b : Nat) : Prop :=
  w.frozen? ⟨b, 0, none⟩ = false ∧ w.frozen? ⟨b, 1, none⟩ = false ∧ w.frozen? ⟨b, 2, none⟩ = false ∧ w.frozen? ⟨b, 3, none⟩ = false
theorem rfr_of {w : World} {b : Nat} {xs : List Value} (h : Lies w b xs) : RFr w b := ⟨h.frz 0, h.frz 1, h.frz 2, h.frz 3⟩
/-- What it is as a program's spot. -/
abbrev Rp.sp (x : Rp) : Sp := ⟨x.y, Strut.mostOf x.ms, Strut.leastOf x.ms, x.h, x.s⟩
abbrev zeroRp : Rp := ⟨0, [], false, false⟩
abbrev withR (x : Rp) (m : Int) : Rp := ⟨x.y, x.ms ++ [m], x.h, x.s⟩
abbrev fixR (x : Rp) (d : Int) : Rp := ⟨atS x.sp + d, [], false, false⟩
abbrev passR (x : Rp) (m : Int) : Rp := bif x.s then ⟨x.y - (Strut.mostOf x.ms + Strut.leastOf x.ms), x.ms ++ [m], true, false⟩ else withR x m
abbrev belowR (y m : Int) : Rp := ⟨y, [m], false, false⟩
abbrev clearedR (y m : Int) : Rp := ⟨y, [m], false, true⟩
theorem withR_sp (x : Rp) (m : Int) : (withR x m).sp = withS x.sp m := by
  unfold Rp.sp withS
  simp only [most_append, least_append]
  rw [show Strut.mostOf [m] = max 0 m from rfl, show Strut.leastOf [m] = min 0 m from rfl]
  have h1 := most_zero x.ms
  have h2 := least_zero x.ms
  congr 1 <;> omega
theorem fixR_sp (x : Rp) (d : Int) : (fixR x d).sp = fixS x.sp d := rfl
theorem passR_sp (x : Rp) (m : Int) : (passR x m).sp = passS x.sp m := by
  obtain ⟨y, ms, h, s⟩ := x
  cases s
  · exact withR_sp _ m
  · exact withR_sp ⟨y - (Strut.mostOf ms + Strut.leastOf ms), ms, true, false⟩ m
theorem belowR_sp (y m : Int) : (belowR y m).sp = belowS y m := rfl
theorem clearedR_sp (y m : Int) : (clearedR y m).sp = clearedS y m := rfl

/-- A document's spot whose numbers are not great. -/
def FineR (x : Rp) : Prop := (-4611686018427387904 ≤ x.y ∧ x.y ≤ 4611686018427387904) ∧ x.ms.all inB = true ∧ x.ms.length ≤ 1000
theorem FineR.sp {x : Rp} (h : FineR x) : FineS x.sp := by
  obtain ⟨hy, hm, -⟩ := h
  have hb := Strut.bounds_of x.ms hm
  exact ⟨hy, by show _ ≤ Strut.mostOf x.ms ∧ Strut.mostOf x.ms ≤ _; omega, by show _ ≤ Strut.leastOf x.ms ∧ Strut.leastOf x.ms ≤ _; omega⟩
/-- What a function that answers one leaves. -/
def GivesR (w : World) (x : Rp) (e : Ending) (w' : World) : Prop := (∃ A n c, e = .returned (rpv x A n c) ∧ Mine w' w.heap.size A n c x.ms) ∧ Below w.heap.size w w'

set_option maxRecDepth 100000 in
set_option maxHeartbeats 800000 in
theorem grwith_any (x : Rp) (A : Option Addr) (n c : Nat) (m : Int) (w : World) (hx : Held w A n c x.ms) (hn : x.ms.length ≤ 1000) :
    Calls Tryz.prog 25 #[rpv x A n c, .int .i64 m] w (GivesR w (withR x m)) := by
  obtain ⟨y, ms, h, s⟩ := x
  have hln := hx.len.symm
  have HM := Lib.hid (fun w' (j : Below w.heap.size w w') => (hx.below j).src)
  have HN := Lib.hid (⟨hn, hln⟩ : ms.length ≤ 1000 ∧ ms.length = n)
  clear hx hn hln
  go_enter Tryz.func25, Tryz.ntmps25
  go_upto_region 1 with fail
  generalize hW : World.alloc _ _ = W
  obtain ⟨b0, hb0⟩ : ∃ b0, w.heap.size = b0 := ⟨_, rfl⟩
  have k1 : Below w.heap.size w W := by rw [← hW]; exact ba2 _ _ _
  have z0 : Lies W b0 (rprow ⟨y, ms, h, s⟩ A n c) := by rw [← hW, ← hb0]; exact (Lies.new w _ _).below (by simp) (ba1 _ _)
  have z1 : Lies W (b0 + 1) (rprow zeroRp none 0 0) := by rw [← hW, ← hb0]; have := Lies.new (w.alloc (.cells (rprow ⟨y, ms, h, s⟩ A n c).toArray 33)) (rprow zeroRp none 0 0) 33; simp at this; exact this
  rw [hb0]
  obtain ⟨c0, c1, c2, c3⟩ := rat_of z0
  have K1 := Lib.hid (⟨k1, z0, z1, (by omega : w.heap.size ≤ b0), by rw [← hW, ← hb0]; simp⟩ : Below w.heap.size w W ∧ Lies W b0 (rprow ⟨y, ms, h, s⟩ A n c) ∧ Lies W (b0 + 1) (rprow zeroRp none 0 0) ∧ w.heap.size ≤ b0 ∧ W.heap.size = b0 + 2)
  clear hW k1 z0 z1 hb0
  have x1 : (W.alloc (.cells #[] 3)).cell? ⟨b0, 1, none⟩ = some (.slice A n c) := by rw [World.cell?_alloc_past _ _ _ (by have := K1.out.2.2.2.2; show b0 < W.heap.size; omega)]; exact c1
  clear c0 c1 c2 c3
  go_wp2_with (first
    | (at_builtin; refine wpList_append_mine _ rfl (.tmp 5) (.tmp 7) rfl W.heap.size (some ⟨W.heap.size, 0, none⟩) 0 0 [] rfl (none_mine W W.heap.size (Nat.le_refl _)) A n c ms rfl (HM.out _ (thru K1.out.1 (ba1 W _))) (by have := HN.out; omega) (by simp) ?_; intro A1 c1' W1 h1; have G1 := Lib.hid (⟨by have := h1.1; simpa using this, h1.below (none_mine W W.heap.size (Nat.le_refl _)) (ba1 W _) (Nat.le_refl _) (by simp)⟩ : Mine W1 W.heap.size A1 n c1' ms ∧ Below W.heap.size W W1); clear h1)
    | (at_builtin; refine wpList_append_mine _ rfl (.tmp 8) (.tmp 10) rfl W.heap.size A1 n c1' ms rfl (G1.out.1.alloc _) (some ⟨W1.heap.size, 0, none⟩) 1 1 [m] rfl (one_src _ _) (by have := HN.out; omega) (by have := G1.out.2.size; simp; omega) ?_; intro A2 c2' W2 h2; have G2 := Lib.hid (⟨h2.1, h2.below (G1.out.1.alloc _) (G1.out.2.alloc G1.out.2.size _) (Nat.le_refl _) (by have := G1.out.2.size; simp; omega)⟩ : Mine W2 W.heap.size A2 (n + 1) c2' (ms ++ [m]) ∧ Below W.heap.size W W2); have y0 := K1.out.2.1.below (by simp) G2.out.2; have y1 := K1.out.2.2.1.below (by simp) G2.out.2; obtain ⟨c0, c1, c2, c3⟩ := rat_of y0; obtain ⟨f0, f1, f2, f3⟩ := rfr_of y0; obtain ⟨d0, d1, d2, d3⟩ := rat_of y1; obtain ⟨g0, g1, g2, g3⟩ := rfr_of y1; clear h2 y0 y1))
  refine bodyPost_ret (v := rpv ⟨y, ms ++ [m], h, s⟩ A2 (n + 1) c2') (by simp [results, Tryz.results25, go_sem, d0, d1, d2, d3]) rfl ?_
  have hle := K1.out.2.2.2.1
  have hWs := K1.out.2.2.2.2
  have hz2 := G2.out.2.size
  refine ⟨⟨A2, n + 1, c2', rfl, ?_⟩, ?_⟩
  · refine mine_save (w := W2) (S := fun k => k < W.heap.size) (Mine.mono G2.out.1 K1.out.1.size) ?_ fun j hj hlt => by have := (Mine.lt G2.out.1 j hj).1; omega
    repeat refine Save.onto_in ?_ _ _ _ (by show _ < _; omega)
    exact Save.refl _ _
  · repeat refine Below.setCell ?_ (by simp <;> omega) _
    exact thru K1.out.1 G2.out.2


set_option maxRecDepth 100000 in
set_option maxHeartbeats 800000 in
theorem grat_any (x : Rp) (A : Option Addr) (n c : Nat) (w : World) (hx : Held w A n c x.ms) (hf : FineR x) :
    Calls Tryz.prog 29 #[rpv x A n c] w fun e w' => e = .returned (.int .i64 (atS x.sp)) ∧ Below w.heap.size w w' := by
  obtain ⟨y, ms, h, s⟩ := x
  have hln := hx.len.symm
  obtain ⟨⟨y1, y2⟩, hall, hms⟩ := hf
  dsimp only at y1 y2 hall hms hln
  have hb := Strut.bounds_of ms hall
  obtain ⟨p, hp⟩ : ∃ p, Strut.mostOf ms = p := ⟨_, rfl⟩
  obtain ⟨q, hq⟩ : ∃ q, Strut.leastOf ms = q := ⟨_, rfl⟩
  have HS := Lib.hid (fun w' (j : Below w.heap.size w w') => (calls_same_below (rsum_any A n c ms w' (by omega) (by omega) w'.heap.size (hx.below j).nums hall)))
  have HM := Lib.hid (fun w' (j : Below w.heap.size w w') => (hx.below j).src)
  have HN := Lib.hid (⟨hms, hln⟩ : ms.length ≤ 1000 ∧ ms.length = n)
  unfold Rp.sp
  rw [hp, hq] at HS ⊢
  have hwr : IntKind.i64.wrap (y + (p + q)) = y + (p + q) := IntWalk.i64_in _ (by omega)
  clear hx hall hms hln hb hp hq HM HN
  go_enter Tryz.func29, Tryz.ntmps29
  cases s with
  | true =>
    go_wp2_with fail
    go_ret
    exact ⟨rfl, ba1 _ _⟩
  | false =>
    go_upto_region 3 with fail
    generalize hW : World.alloc _ _ = W
    obtain ⟨b0, hb0⟩ : ∃ b0, w.heap.size = b0 := ⟨_, rfl⟩
    have k1 : Below w.heap.size w W := by rw [← hW]; exact ba1 _ _
    have z0 : Lies W b0 (rprow ⟨y, ms, h, false⟩ A n c) := by rw [← hW, ← hb0]; exact Lies.new w _ _
    try rw [hb0]
    have K1 := Lib.hid k1
    have HZ := Lib.hid (fun w' (j : Below W.heap.size W w') => z0.below (by simp) j)
    clear hW k1 z0 hb0
    refine Hold.wp_region_hold [.val (.pointer (some ⟨b0, 0, none⟩)), .val (.int .i64 y), .val (.pointer (some ⟨b0, 1, none⟩)), .val (.slice A n c), .val (.int .i64 (p + q)), .val (.int .i64 ((y + (p + q))))] (by kernel_rfl) (by kernel_rfl) (by kernel_rfl) ?_ ?_
    · simp only [Hold.fill, Hold.Leave.value]
      refine ⟨?_, ?_, ?_, ?_, ?_, ?_, trivial⟩
      · intro gg w' hw hk
        go_simp
        exact ⟨rfl, rfl⟩
      · intro gg w' hw hk
        have q0 : w'.cell? ⟨b0, 0, none⟩ = some (.int .i64 y) := (HZ.out w' hw).at' 0
        go_simp
        exact ⟨rfl, rfl⟩
      · intro gg w' hw hk
        go_simp
        exact ⟨rfl, rfl⟩
      · intro gg w' hw hk
        have q0 : w'.cell? ⟨b0, 1, none⟩ = some (.slice A n c) := (HZ.out w' hw).at' 1
        go_simp
        exact ⟨rfl, rfl⟩
      · intro gg w' hw hk
        go_simp
        exact Hold.stays_call (HS.out w' (thru K1.out hw))
      · intro gg w' hw hk
        go_simp
        exact ⟨rfl, rfl⟩
    intro gg w3 k3 hgg
    clear hgg
    simp only [Hold.fill, Hold.Leave.value, List.length_cons, List.length_nil, List.drop_succ_cons, List.drop_zero]
    go_simp
    go_wp2_with fail
    go_ret
    exact ⟨rfl, thru K1.out k3⟩

set_option maxRecDepth 100000 in
set_option maxHeartbeats 1000000 in
theorem gof_any (x : Rp) (A : Option Addr) (n c : Nat) (w : World) (hx : Held w A n c x.ms) (hf : FineR x) :
    Calls Tryz.prog 21 #[rpv x A n c] w fun e w' => e = .returned x.sp.v ∧ Below w.heap.size w w' := by
  obtain ⟨y, ms, h, s⟩ := x
  have hln := hx.len.symm
  obtain ⟨-, -, hms⟩ := hf
  dsimp only at hms hln
  obtain ⟨p, hp⟩ : ∃ p, Strut.mostOf ms = p := ⟨_, rfl⟩
  obtain ⟨q, hq⟩ : ∃ q, Strut.leastOf ms = q := ⟨_, rfl⟩
  have HP := Lib.hid (fun w' (j : Below w.heap.size w w') => (calls_same_below (most_any A n c ms w' (by omega) (by omega) w'.heap.size (hx.below j).nums)))
  have HQ := Lib.hid (fun w' (j : Below w.heap.size w w') => (calls_same_below (least_any A n c ms w' (by omega) (by omega) w'.heap.size (hx.below j).nums)))
  unfold Rp.sp
  rw [hp] at HP
  rw [hq] at HQ
  rw [hp, hq]
  clear hx hms hln hp hq
  go_enter Tryz.func21, Tryz.ntmps21
  go_upto_region 1 with fail
  generalize hW : World.alloc _ _ = W
  obtain ⟨b0, hb0⟩ : ∃ b0, w.heap.size = b0 := ⟨_, rfl⟩
  have k1 : Below w.heap.size w W := by rw [← hW]; exact ba2 _ _ _
  have z0 : Lies W b0 (rprow ⟨y, ms, h, s⟩ A n c) := by rw [← hW, ← hb0]; exact (Lies.new w _ _).below (by simp) (ba1 _ _)
  have z1 : Lies W (b0 + 1) (sprow zeroSp) := by rw [← hW, ← hb0]; have := Lies.new (w.alloc (.cells (rprow ⟨y, ms, h, s⟩ A n c).toArray 33)) (sprow zeroSp) 40; simp at this; exact this
  try rw [hb0]
  have K1 := Lib.hid (⟨k1, z1, (by omega : w.heap.size ≤ b0)⟩ : Below w.heap.size w W ∧ Lies W (b0 + 1) (sprow zeroSp) ∧ w.heap.size ≤ b0)
  have HZ := Lib.hid (fun w' (j : Below W.heap.size W w') => z0.below (by simp) j)
  clear hW k1 z0 z1 hb0
  refine Hold.wp_region_hold [.val (.pointer (some ⟨b0, 0, none⟩)), .val (.int .i64 y), .val (.pointer (some ⟨b0, 1, none⟩)), .val (.slice A n c), .val (.int .i64 p), .val (.pointer (some ⟨b0, 1, none⟩)), .val (.slice A n c), .val (.int .i64 q), .val (.agg #[.int .i64 p, .int .i64 q]), .val (.pointer (some ⟨b0, 2, none⟩)), .val (.bool h), .val (.pointer (some ⟨b0, 3, none⟩)), .val (.bool s), .val (.agg #[.int .i64 y, .int .i64 p, .int .i64 q, .bool h, .bool s])] (by kernel_rfl) (by kernel_rfl) (by kernel_rfl) ?_ ?_
  · simp only [Hold.fill, Hold.Leave.value]
    refine ⟨?_, ?_, ?_, ?_, ?_, ?_, ?_, ?_, ?_, ?_, ?_, ?_, ?_, ?_, trivial⟩
    · intro gg w' hw hk
      go_simp
      exact ⟨rfl, rfl⟩
    · intro gg w' hw hk
      have q0 : w'.cell? ⟨b0, 0, none⟩ = some (.int .i64 y) := (HZ.out w' hw).at' 0
      go_simp
      exact ⟨rfl, rfl⟩
    · intro gg w' hw hk
      go_simp
      exact ⟨rfl, rfl⟩
    · intro gg w' hw hk
      have q0 : w'.cell? ⟨b0, 1, none⟩ = some (.slice A n c) := (HZ.out w' hw).at' 1
      go_simp
      exact ⟨rfl, rfl⟩
    · intro gg w' hw hk
      go_simp
      exact Hold.stays_call (HP.out w' (thru K1.out.1 hw))
    · intro gg w' hw hk
      go_simp
      exact ⟨rfl, rfl⟩
    · intro gg w' hw hk
      have q0 : w'.cell? ⟨b0, 1, none⟩ = some (.slice A n c) := (HZ.out w' hw).at' 1
      go_simp
      exact ⟨rfl, rfl⟩
    · intro gg w' hw hk
      go_simp
      exact Hold.stays_call (HQ.out w' (thru K1.out.1 hw))
    · intro gg w' hw hk
      go_simp
      exact ⟨rfl, rfl⟩
    · intro gg w' hw hk
      go_simp
      exact ⟨rfl, rfl⟩
    · intro gg w' hw hk
      have q0 : w'.cell? ⟨b0, 2, none⟩ = some (.bool h) := (HZ.out w' hw).at' 2
      go_simp
      exact ⟨rfl, rfl⟩
    · intro gg w' hw hk
      go_simp
      exact ⟨rfl, rfl⟩
    · intro gg w' hw hk
      have q0 : w'.cell? ⟨b0, 3, none⟩ = some (.bool s) := (HZ.out w' hw).at' 3
      go_simp
      exact ⟨rfl, rfl⟩
    · intro gg w' hw hk
      go_simp
      exact ⟨rfl, rfl⟩
  intro gg w3 k3 hgg
  clear hgg
  simp only [Hold.fill, Hold.Leave.value, List.length_cons, List.length_nil, List.drop_succ_cons, List.drop_zero]
  have z1 := K1.out.2.1.below (by simp) k3
  obtain ⟨d0, d1, d2, d3, d4⟩ := sat_of z1
  obtain ⟨g0, g1, g2, g3, g4⟩ := sfr_of z1
  have K3 := Lib.hid (⟨thru K1.out.1 k3, K1.out.2.2⟩ : Below w.heap.size w w3 ∧ w.heap.size ≤ b0)
  clear z1 k3 K1 HZ HP HQ
  go_simp
  go_wp2_with fail
  refine bodyPost_ret (v := Sp.v ⟨y, p, q, h, s⟩) (by simp [results, Tryz.results21, go_sem, d0, d1, d2, d3, d4]) rfl ⟨rfl, ?_⟩
  have hle := K3.out.2
  repeat refine Below.setCell ?_ (by simp <;> omega) _
  exact K3.out.1

end Go.Proofs.YtfomhdhiibcdfaaGreat.Spot
