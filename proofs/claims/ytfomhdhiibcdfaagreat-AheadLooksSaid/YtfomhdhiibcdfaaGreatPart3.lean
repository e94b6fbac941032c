/- Texts of this proof that follow each other, in one file. -/
import Derived.Test.YtfomhdhiibcdfaaGreatPart1
import Derived.Test.YtfomhdhiibcdfaaGreatPart2
import Derived.BigQuiet
import Derived.Deep.DeepCutAuto
/-! A law on regions that draw their order, over any program: operations that only read, callees that only make memory, and new blocks, in whichever order, ahead of a forced tail: what each leaves is listed once. -/
namespace Go.Proofs.YtfomhdhiibcdfaaGreat.Rect
open Go.RowKit Go.Sort

/-- What an operation leaves: a value, or a new block. -/
inductive Yield where
  | val (v : Value)
  | box (o : Obj)

def Yield.value (y : Yield) (g : Nat) : Value := match y with
  | .val v => v
  | .box _ => .pointer (some ⟨g, 0, none⟩)
def Yield.isBox : Yield → Bool
  | .val _ => false
  | .box _ => true

section
variable {P : Program}

/-- What is asked of an operation that leaves the value v: that it only reads, or that its callee only makes memory. -/
def stays (P : Program) (w : World) (v : Value) : Result Next → Prop
  | .ok (.value u) w' => w' = w ∧ u = v
  | .ok (.enter f args) w' => w' = w ∧ Calls P f args w (fun e w'' => e = .returned v ∧ Below w.heap.size w w'')
  | _ => False

theorem stays_call {w : World} {v : Value} {f : FuncId} {args : Array Value} (h : Calls P f args w (fun e w'' => e = .returned v ∧ Below w.heap.size w w'')) : stays P w v (.ok (.enter f args) w) := ⟨rfl, h⟩
theorem stays_val {w : World} {v : Value} : stays P w v (.ok (.value v) w) := ⟨rfl, rfl⟩

def yields (P : Program) (o : Oper) (F : Act) (W : World) : Yield → Prop
  | .val v => ∀ w, Below W.heap.size W w → stays P w v ((execOp F.eval o).run P w)
  | .box b => ∀ w, (execOp F.eval o).run P w = .ok (.value (.pointer (some ⟨w.heap.size, 0, none⟩))) (w.alloc b)

def allYield (P : Program) (F : Act) (W : World) : List Oper → List Yield → Prop
  | o :: os, y :: ys => yields P o F W y ∧ allYield P F W os ys
  | _, _ => True

theorem allYield_at {F : Act} {W : World} : ∀ {os : List Oper} {ys : List Yield} {i : Nat} {o : Oper} {y : Yield}, allYield P F W os ys → os[i]? = some o → ys[i]? = some y → yields P o F W y
  | o :: os, y :: ys, 0, _, _, h, h1, h2 => by
    simp only [List.getElem?_cons_zero, Option.some.injEq] at h1 h2; subst h1 h2; exact h.1
  | o :: os, y :: ys, i + 1, _, _, h, h1, h2 => by
    simp only [List.getElem?_cons_succ] at h1 h2; exact allYield_at h.2 h1 h2
  | [], _, _, _, _, _, h1, _ => by simp at h1
  | _ :: _, [], _, _, _, _, _, h2 => by simp at h2

/-- The frame with all that was left. -/
def fill (g : Nat → Nat) : Nat → List Oper → List Yield → Act → Act
  | k, o :: os, y :: ys, a => fill g (k + 1) os ys (a.put o.dst (y.value (g k)))
  | _, _, _, a => a

theorem put_size (a : Act) (d : Option Tmp) (v : Value) : (a.put d v).tmps.size = a.tmps.size := by cases d <;> simp [Act.put]
theorem put_defers (a : Act) (d : Option Tmp) (v : Value) : (a.put d v).defers = a.defers := by cases d <;> rfl
theorem put_slot (a : Act) (d : Tmp) (v : Value) (h : d < a.tmps.size) : (a.put (some d) v).tmps.getD d undef = v := by simp [Act.put, h]
theorem put_other (a : Act) (d : Option Tmp) (v : Value) (t : Tmp) (h : d ≠ some t) : (a.put d v).tmps.getD t undef = a.tmps.getD t undef := by
  cases d with
  | none => rfl
  | some d =>
    have hne : d ≠ t := fun e => h (by rw [e])
    simp [Act.put, Array.getElem?_setIfInBounds_ne hne]

theorem fill_size (g : Nat → Nat) : ∀ (k : Nat) (os : List Oper) (ys : List Yield) (a : Act), (fill g k os ys a).tmps.size = a.tmps.size
  | k, o :: os, y :: ys, a => by rw [fill, fill_size g (k + 1) os ys, put_size]
  | _, [], _, _ => rfl
  | _, _ :: _, [], _ => rfl
theorem fill_defers (g : Nat → Nat) : ∀ (k : Nat) (os : List Oper) (ys : List Yield) (a : Act), (fill g k os ys a).defers = a.defers
  | k, o :: os, y :: ys, a => by rw [fill, fill_defers g (k + 1) os ys, put_defers]
  | _, [], _, _ => rfl
  | _, _ :: _, [], _ => rfl
theorem fill_other (g : Nat → Nat) (t : Tmp) : ∀ (k : Nat) (os : List Oper) (ys : List Yield) (a : Act), (∀ i o, i < ys.length → os[i]? = some o → o.dst ≠ some t) → (fill g k os ys a).tmps.getD t undef = a.tmps.getD t undef
  | k, o :: os, y :: ys, a, h => by
    rw [fill, fill_other g t (k + 1) os ys _ (fun i o hi ho => h (i + 1) o (by simp; omega) (by simpa using ho)), put_other _ _ _ _ (h 0 o (by simp) rfl)]
  | _, [], _, _, _ => rfl
  | _, _ :: _, [], _, _ => rfl
theorem fill_slot (g : Nat → Nat) (d : Tmp) : ∀ (k : Nat) (os : List Oper) (ys : List Yield) (a : Act) (i : Nat) (o : Oper) (y : Yield), d < a.tmps.size → os[i]? = some o → ys[i]? = some y → o.dst = some d →
    (∀ j p, j < ys.length → j ≠ i → os[j]? = some p → p.dst ≠ some d) → (fill g k os ys a).tmps.getD d undef = y.value (g (k + i))
  | k, o :: os, y :: ys, a, 0, _, _, hd, ho, hy, hdst, hne => by
    simp only [List.getElem?_cons_zero, Option.some.injEq] at ho hy
    subst ho hy
    rw [fill, fill_other g d (k + 1) os ys _ (fun i p hi hp => hne (i + 1) p (by simp; omega) (by omega) (by simpa using hp)), hdst, put_slot _ _ _ hd]
    rfl
  | k, o :: os, y :: ys, a, i + 1, o', y', hd, ho, hy, hdst, hne => by
    simp only [List.getElem?_cons_succ] at ho hy
    rw [fill, fill_slot g d (k + 1) os ys _ i o' y' (by rw [put_size]; exact hd) ho hy hdst (fun j p hj hji hp => hne (j + 1) p (by simp; omega) (by omega) (by simpa using hp))]
    congr 2
    omega
  | _, [], _, _, _, _, _, _, ho, _, _, _ => by simp at ho
  | _, _ :: _, [], _, _, _, _, _, _, hy, _, _ => by simp at hy

/-- What is asked of a region's text: of its first operations, that each writes a slot of its own and looks only at what it waits for, and at no new block. -/
def headB (l : List Oper) (bx : List Bool) (size : Nat) : Bool :=
  (List.range bx.length).all fun i => match l[i]? with
    | none => false
    | some o => o.guard.isNone && (match o.dst with | none => false | some d => decide (d < size)) && (o.after.all fun e => !Region.binds .any e || decide (e.on < i)) &&
      (List.range bx.length).all fun j => match l[j]? with
        | none => false
        | some p => (decide (i = j) || p.dst != o.dst) &&
          (match p.dst with | none => false | some d => !(o.looksAt l.toArray).contains d || (o.after.any (fun e => Region.binds .any e && e.on == j) && !(bx.getD j true)))

structure HeadOk (l : List Oper) (bx : List Bool) (size : Nat) : Prop where
  guard : ∀ i o, i < bx.length → l[i]? = some o → o.guard = none
  dst : ∀ i o, i < bx.length → l[i]? = some o → ∃ d, o.dst = some d ∧ d < size
  back : ∀ i o, i < bx.length → l[i]? = some o → ∀ e ∈ o.after, Region.binds .any e = true → e.on < i
  apart : ∀ i j o p, i < bx.length → j < bx.length → l[i]? = some o → l[j]? = some p → i ≠ j → p.dst ≠ o.dst
  looks : ∀ i j o p d, i < bx.length → j < bx.length → l[i]? = some o → l[j]? = some p → p.dst = some d → d ∈ o.looksAt l.toArray → (∃ e ∈ o.after, Region.binds .any e = true ∧ e.on = j) ∧ bx.getD j true = false
  there : ∀ i, i < bx.length → ∃ o, l[i]? = some o

theorem headOk {l : List Oper} {bx : List Bool} {size : Nat} (h : headB l bx size = true) : HeadOk l bx size := by
  have key : ∀ i, i < bx.length → ∃ o, l[i]? = some o ∧ o.guard = none ∧ (∃ d, o.dst = some d ∧ d < size) ∧ (∀ e ∈ o.after, Region.binds .any e = true → e.on < i) ∧
      ∀ j, j < bx.length → ∃ p, l[j]? = some p ∧ (i ≠ j → p.dst ≠ o.dst) ∧ ∀ d, p.dst = some d → d ∈ o.looksAt l.toArray → (∃ e ∈ o.after, Region.binds .any e = true ∧ e.on = j) ∧ bx.getD j true = false := by
    intro i hi
    have h1 := List.all_eq_true.1 h i (List.mem_range.2 hi)
    cases ho : l[i]? with
    | none => rw [ho] at h1; cases h1
    | some o =>
      simp only [ho, Bool.and_eq_true] at h1
      obtain ⟨⟨⟨h2, h3⟩, h4⟩, h5⟩ := h1
      refine ⟨o, rfl, by simpa using h2, ?_, ?_, ?_⟩
      · cases hd : o.dst with
        | none => rw [hd] at h3; cases h3
        | some d => rw [hd] at h3; exact ⟨d, rfl, by simpa using h3⟩
      · intro e he hb
        have := Array.all_eq_true'.1 h4 e he
        simpa [hb] using this
      · intro j hj
        have h6 := List.all_eq_true.1 h5 j (List.mem_range.2 hj)
        cases hp : l[j]? with
        | none => rw [hp] at h6; cases h6
        | some p =>
          simp only [hp, Bool.and_eq_true] at h6
          obtain ⟨h7, h8⟩ := h6
          refine ⟨p, rfl, fun hij => ?_, fun d hd hm => ?_⟩
          · have : (p.dst != o.dst) = true := by simpa [hij] using h7
            simpa using this
          · rw [hd] at h8
            have hc : (o.looksAt l.toArray).contains d = true := by simpa using hm
            simp only [hc, Bool.not_true, Bool.false_or, Bool.and_eq_true] at h8
            obtain ⟨h9, h10⟩ := h8
            obtain ⟨e, he, he2⟩ := Array.any_eq_true'.1 h9
            simp only [Bool.and_eq_true, beq_iff_eq] at he2
            exact ⟨⟨e, he, he2⟩, by simpa using h10⟩
  refine ⟨?_, ?_, ?_, ?_, ?_, ?_⟩
  · intro i o hi ho; obtain ⟨o', ho', h1, _⟩ := key i hi; rw [ho] at ho'; cases ho'; exact h1
  · intro i o hi ho; obtain ⟨o', ho', _, h1, _⟩ := key i hi; rw [ho] at ho'; cases ho'; exact h1
  · intro i o hi ho; obtain ⟨o', ho', _, _, h1, _⟩ := key i hi; rw [ho] at ho'; cases ho'; exact h1
  · intro i j o p hi hj ho hp hij; obtain ⟨o', ho', _, _, _, h1⟩ := key i hi; rw [ho] at ho'; cases ho'
    obtain ⟨p', hp', h2, _⟩ := h1 j hj; rw [hp] at hp'; cases hp'; exact h2 hij
  · intro i j o p d hi hj ho hp hd hm; obtain ⟨o', ho', _, _, _, h1⟩ := key i hi; rw [ho] at ho'; cases ho'
    obtain ⟨p', hp', _, h2⟩ := h1 j hj; rw [hp] at hp'; cases hp'; exact h2 d hd hm
  · intro i hi; obtain ⟨o', ho', _⟩ := key i hi; exact ⟨o', ho'⟩

/-- The state of the region's head. -/
structure Boxing (l : List Oper) (ys : List Yield) (a0 : Act) (W : World) (g : Nat → Nat) (listed : Array Bool) (a : Act) (w : World) : Prop where
  size : a.tmps.size = a0.tmps.size
  defers : a.defers = a0.defers
  below : Below W.heap.size W w
  other : ∀ t, (∀ i o, i < ys.length → l[i]? = some o → listed.getD i false = true → o.dst ≠ some t) → a.tmps.getD t undef = a0.tmps.getD t undef
  slot : ∀ i o y d, l[i]? = some o → ys[i]? = some y → listed.getD i false = true → o.dst = some d → a.tmps.getD d undef = y.value (g i)
  boxes : ∀ i b, ys[i]? = some (.box b) → listed.getD i false = true → W.heap.size ≤ g i ∧ w.heap[g i]? = some b
  apart : ∀ i j b c, i ≠ j → ys[i]? = some (.box b) → ys[j]? = some (.box c) → listed.getD i false = true → listed.getD j false = true → g i ≠ g j

theorem getD_set_cases {listed : Array Bool} {i j : Nat} (h : (listed.setIfInBounds i true).getD j false = true) : j = i ∨ listed.getD j false = true := by
  by_cases hji : i = j
  · exact .inl hji.symm
  · rw [getD_set_ne false hji] at h; exact .inr h

theorem Yield.value_val {y : Yield} (h : y.isBox = false) (g g' : Nat) : y.value g = y.value g' := by cases y <;> first | rfl | cases h

variable {l : List Oper} {ys : List Yield} {a0 : Act} {W : World}

theorem eval_tmp (a : Act) (t : Tmp) : a.eval (.tmp t) = a.tmps.getD t undef := rfl

/-- An operation whose turn it is does in the frame at hand what it does in the full one. -/
theorem Boxing.same {g g' : Nat → Nat} {listed : Array Bool} {a : Act} {w : World} (ok : HeadOk l (ys.map Yield.isBox) a0.tmps.size) (h : Boxing l ys a0 W g listed a w) (hs : Region.noSelect l.toArray = true) {i : Nat} {o : Oper} (hi : i < ys.length) (ho : l[i]? = some o)
    (hd : ∀ e ∈ o.after, Region.binds .any e = true → listed.getD e.on false = true) : execOp a.eval o = execOp (fill g' 0 l ys a0).eval o := by
  have hsel : ∀ cs b, o.op ≠ .select cs b := fun cs b => Region.noSelect_spec hs i o cs b (by simpa using ho)
  refine execOp_congr o hsel fun x hx => ?_
  cases x with
  | tmp t =>
    have hm : t ∈ o.looksAt l.toArray := List.mem_append_left _ (List.mem_filterMap.2 ⟨.tmp t, by simpa using hx, rfl⟩)
    rw [eval_tmp, eval_tmp]
    by_cases hex : ∃ j p, j < ys.length ∧ l[j]? = some p ∧ p.dst = some t
    · obtain ⟨j, p, hj, hp, hpt⟩ := hex
      obtain ⟨⟨e, he, hb, hon⟩, hbx⟩ := ok.looks i j o p t (by simpa using hi) (by simpa using hj) ho hp hpt hm
      have hlj : listed.getD j false = true := by rw [← hon]; exact hd e he hb
      have hy : ys[j]? = some ys[j] := by simp [hj]
      have hbx' : (ys[j]).isBox = false := by simpa [hj] using hbx
      obtain ⟨d, hd1, hd2⟩ := ok.dst j p (by simpa using hj) hp
      have htd : t = d := by rw [hd1] at hpt; exact (Option.some.inj hpt).symm
      rw [h.slot j p _ t hp hy hlj hpt, fill_slot g' t 0 l ys a0 j p _ (by rw [htd]; exact hd2) hp hy hpt (fun k q hk hkj hq e => ok.apart j k p q (by simpa using hj) (by simpa using hk) hp hq (Ne.symm hkj) (by rw [e, hpt]))]
      exact Yield.value_val hbx' _ _
    · rw [h.other t (fun j p hj hp _ e => hex ⟨j, p, hj, hp, e⟩), fill_other g' t 0 l ys a0 (fun j p hj hp e => hex ⟨j, p, hj, hp, e⟩)]
  | _ => rfl

theorem Boxing.step {g g' : Nat → Nat} {listed : Array Bool} {a : Act} {w : World} {Q : Exit → Act → World → Prop} (ok : HeadOk l (ys.map Yield.isBox) a0.tmps.size) (h : Boxing l ys a0 W g listed a w) (hs : Region.noSelect l.toArray = true)
    (hall : allYield P (fill g' 0 l ys a0) W l ys) (hsz : listed.size = l.toArray.size) {i : Nat} (hi : i < ys.length) (hr : i ∈ Region.ready .any l.toArray listed) :
    wpOp P l.toArray Q i (fun a' w' => ∃ g, Boxing l ys a0 W g (listed.setIfInBounds i true) a' w') a w := by
  obtain ⟨hun, o, ho, hdep⟩ := mem_ready.1 hr
  have ho' : l[i]? = some o := by simpa using ho
  have hy : ys[i]? = some ys[i] := by simp [hi]
  obtain ⟨d, hd1, hd2⟩ := ok.dst i o (by simpa using hi) ho'
  have hg := ok.guard i o (by simpa using hi) ho'
  have hw : Region.wanted o (yielded l.toArray a.tmps) = true := by simp [Region.wanted, hg]
  have hsame := h.same (g' := g') ok hs hi ho' hdep
  have hY := allYield_at hall ho' hy
  have hun' : listed.getD i false = false := getD_both hun
  have hin : i < listed.size := by
    rw [hsz]; simpa using (List.getElem?_eq_some_iff.1 ho').1
  have hset : (listed.setIfInBounds i true).getD i false = true := by simp [hin]
  -- what the frame is behind it
  have size' : ∀ v, (a.put o.dst v).tmps.size = a0.tmps.size := fun v => by rw [put_size, h.size]
  have other' : ∀ v t, (∀ j p, j < ys.length → l[j]? = some p → (listed.setIfInBounds i true).getD j false = true → p.dst ≠ some t) → (a.put o.dst v).tmps.getD t undef = a0.tmps.getD t undef := by
    intro v t ht
    rw [put_other _ _ _ _ (ht i o hi ho' hset)]
    refine h.other t fun j p hj hp hl => ht j p hj hp ?_
    by_cases hij : i = j
    · subst hij; rw [hun'] at hl; cases hl
    · rw [getD_set_ne false hij]; exact hl
  have slot' : ∀ (gg : Nat → Nat) (v : Value), v = (ys[i]).value (gg i) → (∀ j, j ≠ i → gg j = g j) → ∀ j p y t, l[j]? = some p → ys[j]? = some y → (listed.setIfInBounds i true).getD j false = true → p.dst = some t →
      (a.put o.dst v).tmps.getD t undef = y.value (gg j) := by
    intro gg v hv hgg j p y t hp hyj hl ht
    by_cases hij : j = i
    · subst hij
      rw [ho'] at hp; cases hp
      rw [hy] at hyj; cases hyj
      rw [hd1] at ht; cases ht
      rw [hd1, put_slot _ _ _ (by rw [h.size]; exact hd2), hv]
    · rcases getD_set_cases hl with e | hl'
      · exact absurd e hij
      · have hj : j < ys.length := (List.getElem?_eq_some_iff.1 hyj).1
        rw [put_other _ _ _ _ (fun e => ok.apart j i p o (by simpa using hj) (by simpa using hi) hp ho' hij (by rw [e, ht])), h.slot j p y t hp hyj hl' ht, hgg j hij]
  -- boxes stay under a world that only grows
  have boxes' : ∀ (w' : World), Below w.heap.size w w' → (∀ b, ys[i]? ≠ some (.box b)) → ∀ j b, ys[j]? = some (.box b) → (listed.setIfInBounds i true).getD j false = true → W.heap.size ≤ g j ∧ w'.heap[g j]? = some b := by
    intro w' hb hnb j b hyj hl
    rcases getD_set_cases hl with e | hl'
    · subst e; exact absurd hyj (hnb b)
    · obtain ⟨h1, h2⟩ := h.boxes j b hyj hl'
      exact ⟨h1, by rw [hb.block _ (lt_of_block h2)]; exact h2⟩
  have apart' : (∀ b, ys[i]? ≠ some (.box b)) → ∀ j k b c, j ≠ k → ys[j]? = some (.box b) → ys[k]? = some (.box c) → (listed.setIfInBounds i true).getD j false = true → (listed.setIfInBounds i true).getD k false = true → g j ≠ g k := by
    intro hnb j k b c hjk hj hk hlj hlk
    rcases getD_set_cases hlj with e | hlj'
    · subst e; exact absurd hj (hnb b)
    · rcases getD_set_cases hlk with e | hlk'
      · subst e; exact absurd hk (hnb c)
      · exact h.apart j k b c hjk hj hk hlj' hlk'
  unfold wpOp
  simp only [ho, hw, if_true]
  left
  unfold Oper.wp
  rw [hsame]
  revert hY
  generalize hyi : ys[i] = y at *
  cases y with
  | val v =>
    intro hY
    have hnb : ∀ b, ys[i]? ≠ some (.box b) := fun b e => by rw [hy] at e; cases e
    have h3 := hY w h.below
    generalize (execOp (fill g' 0 l ys a0).eval o).run P w = r at *
    cases r with
    | ok nx w' =>
      cases nx <;> simp only [stays] at h3 <;> simp only [Oper.upon]
      case value u =>
        obtain ⟨rfl, rfl⟩ := h3
        exact ⟨g, size' _, by rw [put_defers, h.defers], h.below, other' _, slot' g _ rfl (fun _ _ => rfl), boxes' _ (Below.refl _ _) hnb, apart' hnb⟩
      case enter f args =>
        obtain ⟨rfl, hc⟩ := h3
        refine hc.mono fun e w'' ⟨he, hb⟩ => ?_
        subst he
        exact ⟨g, size' _, by rw [put_defers, h.defers], h.below.trans (hb.mono h.below.size), other' _, slot' g _ rfl (fun _ _ => rfl), boxes' _ hb hnb, apart' hnb⟩
    | halt x w' => simp only [stays] at h3
  | box b =>
    intro hY
    rw [hY w]
    simp only [Oper.upon]
    obtain ⟨gg, hgi, hgj⟩ : ∃ gg : Nat → Nat, gg i = w.heap.size ∧ ∀ j, j ≠ i → gg j = g j := ⟨fun j => if j = i then w.heap.size else g j, by simp, fun j hj => by simp [hj]⟩
    refine ⟨gg, size' _, by rw [put_defers, h.defers], h.below.alloc h.below.size b, other' _, slot' gg _ (by rw [hgi]; rfl) hgj, ?_, ?_⟩
    · intro j c hj hl
      by_cases hji : j = i
      · subst hji
        rw [hy] at hj; cases hj
        rw [hgi]
        exact ⟨h.below.size, by show (w.heap.push b)[w.heap.size]? = some b; simp⟩
      · rcases getD_set_cases hl with e | hl'
        · exact absurd e hji
        · obtain ⟨h1, h2⟩ := h.boxes j c hj hl'
          rw [hgj j hji]
          exact ⟨h1, by rw [Below.heap_alloc _ _ _ (lt_of_block h2)]; exact h2⟩
    · intro j k c1 c2 hjk hj hk hlj hlk
      by_cases hji : j = i
      · have hki : k ≠ i := fun e => hjk (hji.trans e.symm)
        rcases getD_set_cases hlk with e | hlk'
        · exact absurd e hki
        · have := lt_of_block (h.boxes k c2 hk hlk').2
          rw [hgj k hki, hji, hgi]; omega
      · rcases getD_set_cases hlj with e | hlj'
        · exact absurd e hji
        · by_cases hki : k = i
          · have := lt_of_block (h.boxes j c1 hj hlj').2
            rw [hgj j hji, hki, hgi]; omega
          · rcases getD_set_cases hlk with e | hlk'
            · exact absurd e hki
            · rw [hgj j hji, hgj k hki]; exact h.apart j k c1 c2 hjk hj hk hlj' hlk'

/-- Behind the whole head the frame is the full one. -/
theorem Boxing.full {g : Nat → Nat} {listed : Array Bool} {a : Act} {w : World} (ok : HeadOk l (ys.map Yield.isBox) a0.tmps.size) (h : Boxing l ys a0 W g listed a w) (hl : ∀ i, i < ys.length → listed.getD i false = true) : a = fill g 0 l ys a0 := by
  have hsz : a.tmps.size = (fill g 0 l ys a0).tmps.size := by rw [fill_size, h.size]
  have hslot : ∀ t, a.tmps.getD t undef = (fill g 0 l ys a0).tmps.getD t undef := by
    intro t
    by_cases hex : ∃ j p, j < ys.length ∧ l[j]? = some p ∧ p.dst = some t
    · obtain ⟨j, p, hj, hp, hpt⟩ := hex
      have hy : ys[j]? = some ys[j] := by simp [hj]
      obtain ⟨d, hd1, hd2⟩ := ok.dst j p (by simpa using hj) hp
      have htd : t = d := by rw [hd1] at hpt; exact (Option.some.inj hpt).symm
      rw [h.slot j p _ t hp hy (hl j hj) hpt, fill_slot g t 0 l ys a0 j p _ (by rw [htd]; exact hd2) hp hy hpt (fun k q hk hkj hq e => ok.apart j k p q (by simpa using hj) (by simpa using hk) hp hq (Ne.symm hkj) (by rw [e, hpt])), Nat.zero_add]
    · rw [h.other t (fun j p hj hp _ e => hex ⟨j, p, hj, hp, e⟩), fill_other g t 0 l ys a0 (fun j p hj hp e => hex ⟨j, p, hj, hp, e⟩)]
  have ht : a.tmps = (fill g 0 l ys a0).tmps := by
    refine Array.ext hsz fun t h1 h2 => ?_
    have := hslot t
    simpa [h1, h2] using this
  have hdf : a.defers = (fill g 0 l ys a0).defers := by rw [fill_defers, h.defers]
  generalize fill g 0 l ys a0 = F at *
  cases a; cases F
  simp only at ht hdf
  subst ht hdf
  rfl

/-- A region that draws its order: the operations of its head leave what is listed; new blocks are apart; then its tail, one by one. -/
theorem wp_region_boxes {id : Nat} {Q : Exit → Act → World → Prop} (ys : List Yield) (hm : P.follows .mixedOrders = true)
    (hB : (Region.noSelect l.toArray && decide (ys.length < l.toArray.size) && Region.sinkB .any l.toArray ys.length && Region.chainB .any l.toArray ys.length &&
      Region.seqB .any l.toArray (l.toArray.size - ys.length) ys.length ((List.replicate ys.length true ++ List.replicate (l.toArray.size - ys.length) false).toArray) && headB l (ys.map Yield.isBox) a0.tmps.size) = true)
    (hall : allYield P (fill (fun _ => 0) 0 l ys a0) W l ys)
    (hend : ∀ (g : Nat → Nat) (w' : World), Below W.heap.size W w' → (∀ i b, ys[i]? = some (.box b) → W.heap.size ≤ g i ∧ w'.heap[g i]? = some b) →
      (∀ i j b c, i ≠ j → ys[i]? = some (.box b) → ys[j]? = some (.box c) → g i ≠ g j) → wpList P l.toArray Q (l.drop ys.length) (fill g 0 l ys a0) w') :
    (Code.region id l.toArray true).wp P Q a0 W := by
  simp only [Bool.and_eq_true, decide_eq_true_eq] at hB
  obtain ⟨⟨⟨⟨⟨hsel, hn⟩, hs⟩, hc⟩, hseq⟩, hhead⟩ := hB
  have ok := headOk hhead
  have hn' : ys.length < l.length := by simpa using hn
  have hdl : (l.drop ys.length).length = l.toArray.size - ys.length := by simp
  refine wp_region_any hm ?_
  have key : ∀ (f : Nat) (listed : Array Bool) (a : Act) (w : World) (g : Nat → Nat), HeadInv .any l.toArray ys.length listed → unlisted listed = f + (l.toArray.size - ys.length) → Boxing l ys a0 W g listed a w →
      wpAny P .any l.toArray Q (f + (l.toArray.size - ys.length)) listed a w := by
    intro f
    induction f with
    | zero =>
      intro listed a w g inv hu hb
      have hls : listed.size = l.length := by have := inv.size; simpa using this
      -- all of the head has come up
      have hcount : listed.toList.countP (fun b => !b) = l.length - ys.length := by
        unfold unlisted at hu; simpa using hu
      have htail : listed.toList.drop ys.length = List.replicate (l.length - ys.length) false := by
        refine List.ext_getElem (by simp [hls]) fun k h1 h2 => ?_
        have hk : ys.length + k < listed.size := by simp at h1; omega
        have := inv.tail (ys.length + k) (by omega) (by rw [← inv.size]; exact hk)
        simpa [hk] using this
      have hsplit : listed.toList = listed.toList.take ys.length ++ List.replicate (l.length - ys.length) false := by rw [← htail, List.take_append_drop]
      have hh : (listed.toList.take ys.length).countP (fun b => !b) = 0 := by
        rw [hsplit, List.countP_append] at hcount
        have hr : (List.replicate (l.length - ys.length) false).countP (fun b => !b) = l.length - ys.length := by rw [List.countP_replicate]; simp
        rw [hr] at hcount
        omega
      have hhead : listed.toList.take ys.length = List.replicate ys.length true := by
        have hlen : (listed.toList.take ys.length).length = ys.length := by simp [hls]; omega
        rw [List.eq_replicate_iff]
        refine ⟨hlen, fun b hb => ?_⟩
        have := List.countP_eq_zero.1 hh b hb
        simpa using this
      have hlisted : listed = (List.replicate ys.length true ++ List.replicate (l.toArray.size - ys.length) false).toArray := by
        have h1 : listed = listed.toList.toArray := by simp
        rw [h1, hsplit, hhead]
        simp
      have hall' : ∀ i, i < ys.length → listed.getD i false = true := by
        intro i hi
        rw [hlisted, Array.getD_eq_getD_getElem?, List.getElem?_toArray, List.getElem?_append_left (by simpa using hi)]
        simp [hi]
      have hfull := hb.full ok hall'
      have := wpAny_of_seq (P := P) (ops := l.toArray) (md := .any) (Q' := Q) (l.drop ys.length) ys.length listed a w (fun j => by simp [List.getElem?_drop]) (by rw [hdl, hlisted]; exact hseq) (by
        rw [hfull]
        exact hend g w hb.below (fun i b hi => hb.boxes i b hi (hall' i (List.getElem?_eq_some_iff.1 hi).1)) (fun i j b c hij hi hj => hb.apart i j b c hij hi hj (hall' i (List.getElem?_eq_some_iff.1 hi).1) (hall' j (List.getElem?_eq_some_iff.1 hj).1)))
      rwa [hdl, ← Nat.zero_add (l.toArray.size - ys.length)] at this
    | succ f ih =>
      intro listed a w g inv hu hb
      -- the first one of the head that has not come up
      have hex : ∃ i, i < ys.length ∧ listed.getD i false = false := by
        refine Classical.byContradiction fun hno => ?_
        have hno' : ∀ i, i < ys.length → listed.getD i false = true := fun i hi => by
          cases h : listed.getD i false with
          | true => rfl
          | false => exact absurd ⟨i, hi, h⟩ hno
        have hls : listed.size = l.length := by have := inv.size; simpa using this
        have h0 : (listed.toList.take ys.length).countP (fun b => !b) = 0 := by
          rw [List.countP_eq_zero]
          intro b hb'
          obtain ⟨k, hk, rfl⟩ := List.getElem_of_mem hb'
          have hk1 : k < ys.length := by simp at hk; omega
          have hk2 : k < listed.size := by omega
          have := hno' k hk1
          simpa [hk2] using this
        have h1 := List.countP_le_length (p := fun b => !b) (l := listed.toList.drop ys.length)
        have h2 : unlisted listed = (listed.toList.take ys.length).countP (fun b => !b) + (listed.toList.drop ys.length).countP (fun b => !b) := by
          unfold unlisted; rw [← List.countP_append, List.take_append_drop]
        simp only [List.length_drop, Array.length_toList, hls] at h1
        have h3 : l.toArray.size = l.length := by simp
        omega
      have hleast : ∀ m : Nat, (∃ i, i < m ∧ i < ys.length ∧ listed.getD i false = false) → ∃ i, i < ys.length ∧ listed.getD i false = false ∧ ∀ j, j < i → listed.getD j false = true := by
        intro m
        induction m with
        | zero => rintro ⟨i, hi, _⟩; omega
        | succ m ih2 =>
          rintro ⟨i, hi, hiy, hil⟩
          by_cases hsm : ∃ j, j < m ∧ j < ys.length ∧ listed.getD j false = false
          · exact ih2 hsm
          · refine ⟨i, hiy, hil, fun j hj => ?_⟩
            cases h : listed.getD j false with
            | true => rfl
            | false => exact absurd ⟨j, by omega, by omega, h⟩ hsm
      obtain ⟨i, hi, hil, hlt⟩ := hleast ys.length (by obtain ⟨i, h1, h2⟩ := hex; exact ⟨i, h1, h1, h2⟩)
      have hsize : ∀ k, k < ys.length → k < listed.size := fun k hk => by rw [inv.size]; omega
      have hready : i ∈ Region.ready .any l.toArray listed := by
        obtain ⟨o, ho⟩ := ok.there i (by simpa using hi)
        exact mem_ready.2 ⟨getD_in (hsize i hi) hil, o, by simpa using ho, fun e he hbd => hlt _ (ok.back i o (by simpa using hi) ho e he hbd)⟩
      rw [show f + 1 + (l.toArray.size - ys.length) = (f + (l.toArray.size - ys.length)) + 1 by omega]
      refine ⟨fun h0 => (by rw [h0] at hready; cases hready), fun j hj => ?_⟩
      have hjn : j < ys.length := by
        rcases Nat.lt_or_ge j ys.length with h | h
        · exact h
        · exact absurd hj (tail_waits hs hc hn inv _ i rfl hi (getD_in (hsize i hi) hil) j h)
      refine wpOp_mono (fun a' w' ⟨g', hb'⟩ => ih _ a' w' g' (inv.set hj hjn) ?_ hb') (hb.step ok hsel hall inv.size hjn hj)
      have := unlisted_set (mem_ready.1 hj).1
      omega
  have inv0 : HeadInv .any l.toArray ys.length (Array.replicate l.toArray.size false) :=
    ⟨by simp, fun j oj _ hl => (by rw [getD_replicate_false] at hl; cases hl), fun t _ ht => getD_in (by simpa using ht) (getD_replicate_false _ _)⟩
  have hu : unlisted (Array.replicate l.toArray.size false) = ys.length + (l.toArray.size - ys.length) := by
    unfold unlisted
    rw [Array.toList_replicate, List.countP_replicate]
    simp
    omega
  have := key ys.length _ a0 { W with drawn := W.drawn + 1 } (fun _ => 0) inv0 hu
    ⟨rfl, rfl, ⟨rfl, rfl, rfl, Nat.le_refl _, fun _ _ => rfl⟩, fun _ _ => rfl, fun i o y d _ _ hl => (by rw [getD_replicate_false] at hl; cases hl), fun i b _ hl => (by rw [getD_replicate_false] at hl; cases hl),
      fun i j b c _ _ _ hl => (by rw [getD_replicate_false] at hl; cases hl)⟩
  rwa [show ys.length + (l.toArray.size - ys.length) = l.toArray.size by omega] at this

end
end Go.Proofs.YtfomhdhiibcdfaaGreat.Rect

/-! Blocks of four numbers: what a walk reads of them, and how they stay. -/
namespace Go.Proofs.YtfomhdhiibcdfaaGreat.Rect
open Go.RowKit Go.Sort

/-- Four numbers of a block. -/
def R4 (w : World) (g : Nat) (x0 x1 x2 x3 : Int) : Prop :=
  w.cell? ⟨g, 0, none⟩ = some (.int .i64 x0) ∧ w.cell? ⟨g, 1, none⟩ = some (.int .i64 x1) ∧ w.cell? ⟨g, 2, none⟩ = some (.int .i64 x2) ∧ w.cell? ⟨g, 3, none⟩ = some (.int .i64 x3)

theorem R4.below {w w' : World} {g : Nat} {x0 x1 x2 x3 : Int} (h : R4 w g x0 x1 x2 x3) (k : Below w.heap.size w w') : R4 w' g x0 x1 x2 x3 := by
  have hg : g < w.heap.size := block_lt_of_cell h.1
  exact ⟨by rw [k.cell (p := ⟨g, 0, none⟩) hg]; exact h.1, by rw [k.cell (p := ⟨g, 1, none⟩) hg]; exact h.2.1, by rw [k.cell (p := ⟨g, 2, none⟩) hg]; exact h.2.2.1, by rw [k.cell (p := ⟨g, 3, none⟩) hg]; exact h.2.2.2⟩

theorem R4.grown {w : World} {g : Nat} {x0 x1 x2 x3 : Int} (h : R4 w g x0 x1 x2 x3) : (∀ d os, (grow (redrawn w d) os).cell? ⟨g, 0, none⟩ = some (.int .i64 x0)) ∧ (∀ d os, (grow (redrawn w d) os).cell? ⟨g, 1, none⟩ = some (.int .i64 x1)) ∧
    (∀ d os, (grow (redrawn w d) os).cell? ⟨g, 2, none⟩ = some (.int .i64 x2)) ∧ (∀ d os, (grow (redrawn w d) os).cell? ⟨g, 3, none⟩ = some (.int .i64 x3)) :=
  ⟨cell_regrown h.1, cell_regrown h.2.1, cell_regrown h.2.2.1, cell_regrown h.2.2.2⟩

theorem R4.of_block {w : World} {g : Nat} {x0 x1 x2 x3 : Int} {T : TypeId} (h : w.heap[g]? = some (.cells #[.int .i64 x0, .int .i64 x1, .int .i64 x2, .int .i64 x3] T)) : R4 w g x0 x1 x2 x3 := by
  refine ⟨?_, ?_, ?_, ?_⟩ <;> simp [World.cell?, h]

theorem set4 {w : World} {g : Nat} {x0 x1 x2 x3 : Int} {T : TypeId} (h : w.heap[g]? = some (.cells #[.int .i64 x0, .int .i64 x1, .int .i64 x2, .int .i64 x3] T)) (y0 y1 y2 y3 : Int) :
    ((((w.setCell ⟨g, 0, none⟩ (.int .i64 y0)).setCell ⟨g, 1, none⟩ (.int .i64 y1)).setCell ⟨g, 2, none⟩ (.int .i64 y2)).setCell ⟨g, 3, none⟩ (.int .i64 y3)).heap[g]? = some (.cells #[.int .i64 y0, .int .i64 y1, .int .i64 y2, .int .i64 y3] T) := by
  have hlt := lt_of_block h
  simp [World.setCell, Array.getElem?_modify, h]

theorem set4_other {w : World} {g k : Nat} (hne : k ≠ g) (y0 y1 y2 y3 : Value) :
    ((((w.setCell ⟨g, 0, none⟩ y0).setCell ⟨g, 1, none⟩ y1).setCell ⟨g, 2, none⟩ y2).setCell ⟨g, 3, none⟩ y3).heap[k]? = w.heap[k]? := by
  rw [Below.heap_setCell _ _ _ _ hne, Below.heap_setCell _ _ _ _ hne, Below.heap_setCell _ _ _ _ hne, Below.heap_setCell _ _ _ _ hne]

/-- Two new blocks into which four numbers each were stored. -/
theorem stored_two {W w : World} {p q : Nat} (k : Below W.heap.size W w) {x0 x1 x2 x3 z0 z1 z2 z3 : Int} {T : TypeId} (gp : W.heap.size ≤ p) (hp : w.heap[p]? = some (.cells #[.int .i64 x0, .int .i64 x1, .int .i64 x2, .int .i64 x3] T))
    (gq : W.heap.size ≤ q) (hq : w.heap[q]? = some (.cells #[.int .i64 z0, .int .i64 z1, .int .i64 z2, .int .i64 z3] T)) (hne : p ≠ q) (a0 a1 a2 a3 b0 b1 b2 b3 : Int) (w3 : World)
    (h3 : w3 = (((((((w.setCell ⟨p, 0, none⟩ (.int .i64 a0)).setCell ⟨p, 1, none⟩ (.int .i64 a1)).setCell ⟨p, 2, none⟩ (.int .i64 a2)).setCell ⟨p, 3, none⟩ (.int .i64 a3)).setCell ⟨q, 0, none⟩ (.int .i64 b0)).setCell ⟨q, 1, none⟩ (.int .i64 b1)).setCell ⟨q, 2, none⟩ (.int .i64 b2)).setCell ⟨q, 3, none⟩ (.int .i64 b3)) :
    R4 w3 p a0 a1 a2 a3 ∧ R4 w3 q b0 b1 b2 b3 ∧ Below W.heap.size W w3 := by
  subst h3
  have h1 := set4 hp a0 a1 a2 a3
  have h2 := set4_other (w := w) (g := p) (k := q) (Ne.symm hne) (.int .i64 a0) (.int .i64 a1) (.int .i64 a2) (.int .i64 a3)
  rw [hq] at h2
  refine ⟨R4.of_block (T := T) (by rw [set4_other hne]; exact h1), R4.of_block (set4 h2 b0 b1 b2 b3), ?_⟩
  exact ((((((((k.setCell gp _).setCell gp _).setCell gp _).setCell gp _).setCell gq _).setCell gq _).setCell gq _).setCell gq _)

/-- What a store into a new block of four cells asks. -/
theorem free4 {w : World} {g : Nat} {x0 x1 x2 x3 : Int} {T : TypeId} (h : w.heap[g]? = some (.cells #[.int .i64 x0, .int .i64 x1, .int .i64 x2, .int .i64 x3] T)) :
    w.frozen? ⟨g, 0, none⟩ = false ∧ w.frozen? ⟨g, 1, none⟩ = false ∧ w.frozen? ⟨g, 2, none⟩ = false ∧ w.frozen? ⟨g, 3, none⟩ = false := by
  refine ⟨?_, ?_, ?_, ?_⟩ <;> simp [World.frozen?, h]

/-- The cells of the three arguments, boxed. -/
theorem boxed3 (w : World) (a0 a1 a2 a3 b0 b1 b2 b3 p q s u : Int) (S T U : TypeId) (w1 : World)
    (k : Below (((w.alloc (.cells #[.int .i64 a0, .int .i64 a1, .int .i64 a2, .int .i64 a3] S)).alloc (.cells #[.int .i64 b0, .int .i64 b1, .int .i64 b2, .int .i64 b3] T)).alloc (.cells #[.int .i64 p, .int .i64 q, .int .i64 s, .int .i64 u] U)).heap.size
      (((w.alloc (.cells #[.int .i64 a0, .int .i64 a1, .int .i64 a2, .int .i64 a3] S)).alloc (.cells #[.int .i64 b0, .int .i64 b1, .int .i64 b2, .int .i64 b3] T)).alloc (.cells #[.int .i64 p, .int .i64 q, .int .i64 s, .int .i64 u] U)) w1) :
    R4 w1 w.heap.size a0 a1 a2 a3 ∧ R4 w1 (w.heap.size + 1) b0 b1 b2 b3 ∧ R4 w1 (w.heap.size + 1 + 1) p q s u ∧ Below w.heap.size w w1 := by
  refine ⟨R4.below ?_ k, R4.below ?_ k, R4.below ?_ k, thru (ba3 _ _ _ _) k⟩
  all_goals (refine ⟨?_, ?_, ?_, ?_⟩ <;> simp [go_sem])

theorem inB_0 {a b c d : Int} (h : [a, b, c, d].all inB = true) : -1152921504606846976 ≤ a ∧ a ≤ 1152921504606846976 := by
  simp [inB] at h; omega
theorem inB_1 {a b c d : Int} (h : [a, b, c, d].all inB = true) : -1152921504606846976 ≤ b ∧ b ≤ 1152921504606846976 := by
  simp [inB] at h; omega
theorem inB_2 {a b c d : Int} (h : [a, b, c, d].all inB = true) : -1152921504606846976 ≤ c ∧ c ≤ 1152921504606846976 := by
  simp [inB] at h; omega
theorem inB_3 {a b c d : Int} (h : [a, b, c, d].all inB = true) : -1152921504606846976 ≤ d ∧ d ≤ 1152921504606846976 := by
  simp [inB] at h; omega

end Go.Proofs.YtfomhdhiibcdfaaGreat.Rect

/-! The contracts of the document's own looks at one float: is it near, does it count. -/
namespace Go.Proofs.YtfomhdhiibcdfaaGreat.Shelf
open Go.RowKit Go.Sort Go.Proofs.YtfomhdhiibcdfaaGreat.Rect

abbrev Fl.v (f : Fl) : Value := .agg #[.int .i64 f.s, .int .i64 f.l, .int .i64 f.t, .int .i64 f.r, .int .i64 f.b]

def inS (x : Int) : Bool := decide (-2251799813685248 < x) && decide (x < 2251799813685248)
theorem inS_iff {x : Int} : inS x = true ↔ -2251799813685248 < x ∧ x < 2251799813685248 := by unfold inS; simp

theorem ret_b {a b : Bool} (h : a = b) : Ending.returned (.bool a) = .returned (.bool b) := by rw [h]
theorem take_s (xs : List Int) (k : Nat) (h : k < xs.length) : xs.take (k + 1) = xs.take k ++ [xs.getD k 0] := by
  rw [List.take_succ_eq_append_getElem h]; simp [List.getD, h]
theorem all_s (xs : List Int) (k : Nat) (h : k < xs.length) (y : Int) (hy : y = xs.getD k 0) (hb : inS y = false) : xs.all inS = false := by
  rw [List.all_eq_false]
  refine ⟨y, ?_, by rw [hb]; simp⟩
  rw [hy]; simp [List.getD, h]

set_option maxHeartbeats 1000000 in
theorem smallR_is (l t r b : Int) (v : Bool) (hv : [l, t, r, b].all inS = v) (w : World) :
    Calls Tryz.prog 15 #[.agg #[.int .i64 l, .int .i64 t, .int .i64 r, .int .i64 b]] w fun e w' => e = .returned (.bool v) ∧ Below w.heap.size w w' := by
  obtain ⟨xs, hxs⟩ : ∃ xs, [l, t, r, b] = xs := ⟨_, rfl⟩
  have hn : xs.length = 4 := by rw [← hxs]; rfl
  rw [hxs] at hv
  have HV := Lib.hid hv
  have HN := Lib.hid hn
  clear hv hn
  go_enter Tryz.func15, Tryz.ntmps15
  go_upto_region 1 with fail
  generalize hW : World.alloc w _ = W
  have HX : Hid (∀ k, k < 4 → W.cell? ⟨w.heap.size, k, none⟩ = some (.int .i64 (xs.getD k 0))) := Lib.hid (by
    intro k hk
    rw [← hW, ← hxs]
    match k, hk with
    | 0, _ => simp [go_sem]
    | 1, _ => simp [go_sem]
    | 2, _ => simp [go_sem]
    | 3, _ => simp [go_sem]
    | k + 4, h => omega)
  have HB := Lib.hid (show Below w.heap.size w W by rw [← hW]; exact ba1 _ _)
  clear hW hxs
  go_wp2_with fail
  go_loop [3] (fun i => ∃ k : Nat, k ≤ 4 ∧ i = .int .i64 k ∧ (xs.take k).all inS = true) (fun i => 4 - (intOf i).toNat)
  case atStart => exact ⟨0, Nat.zero_le _, rfl, by simp⟩
  case round =>
    obtain ⟨k, hk, rfl, hal⟩ := hrel
    have HA := Lib.hid hal
    clear hal
    by_cases hlt : k < 4
    · have hcx := HX.out k hlt
      have hk4 : (k : Int) < 4 := by omega
      have hk0 : ¬ (k : Int) < 0 := by omega
      obtain ⟨y, hy⟩ : ∃ y, y = xs.getD k 0 := ⟨_, rfl⟩
      rw [← hy] at hcx
      have HY := Lib.hid hy
      clear hy
      by_cases c1 : y ≤ -2251799813685248
      · go_wp2_with fail
        go_ret
        exact ⟨ret_b (by rw [← HV.out, all_s xs k (by rw [HN.out]; exact hlt) y HY.out (by unfold inS; simp; omega)]), HB.out⟩
      · by_cases c2 : 2251799813685248 ≤ y
        · go_wp2_with fail
          go_ret
          exact ⟨ret_b (by rw [← HV.out, all_s xs k (by rw [HN.out]; exact hlt) y HY.out (by unfold inS; simp; omega)]), HB.out⟩
        · have h1 : inS y = true := inS_iff.2 ⟨by omega, by omega⟩
          go_wp2_with fail
          go_round
          case rel => exact ⟨k + 1, by omega, by go_num, by rw [take_s xs k (by rw [HN.out]; exact hlt), ← HY.out, List.all_append, HA.out]; simp [h1]⟩
          case measure => simp [intOf]; omega
    · have hv : v = true := by rw [← HV.out]; have := HA.out; rwa [List.take_of_length_le (by rw [HN.out]; omega)] at this
      have HV2 := Lib.hid hv
      clear hv
      have hk4 : ¬ (k : Int) < 4 := by omega
      go_wp2_with fail
      go_ret
      exact ⟨ret_b HV2.out.symm, HB.out⟩

end Go.Proofs.YtfomhdhiibcdfaaGreat.Shelf
