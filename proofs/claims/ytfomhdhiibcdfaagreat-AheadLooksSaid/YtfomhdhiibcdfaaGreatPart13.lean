/- Texts of this proof that follow each other, in one file. -/
import Derived.Test.YtfomhdhiibcdfaaGreatPart1
import Derived.Test.YtfomhdhiibcdfaaGreatPart12
import Derived.DataElems
/-! A law on regions that draw their order, over any program: operations that only read, callees that only make memory, and new blocks, in whichever order, ahead of a forced tail: what each leaves is listed once. -/
namespace Go.Proofs.YtfomhdhiibcdfaaGreat.Strut
open Go.RowKit Go.Sort

/-- What an operation leaves: a value, or a new block. -/
inductive Yield where
  | val (v : Value)
  | box (o : Obj)

def Yield.value (y : Yield) (g : Nat) : Value := match y with
  | .val v => v
  | .box _ => .pointer (some ⟨g, 0, none⟩)
def Yield.isBox : Yield → Bool
  | .val _ => false
  | .box _ => true

section
variable {P : Program}

/-- What is asked of an operation that leaves the value v: that it only reads, or that its callee only makes memory. -/
def stays (P : Program) (w : World) (v : Value) : Result Next → Prop
  | .ok (.value u) w' => w' = w ∧ u = v
  | .ok (.enter f args) w' => w' = w ∧ Calls P f args w (fun e w'' => e = .returned v ∧ Below w.heap.size w w'')
  | _ => False

theorem stays_call {w : World} {v : Value} {f : FuncId} {args : Array Value} (h : Calls P f args w (fun e w'' => e = .returned v ∧ Below w.heap.size w w'')) : stays P w v (.ok (.enter f args) w) := ⟨rfl, h⟩
theorem stays_val {w : World} {v : Value} : stays P w v (.ok (.value v) w) := ⟨rfl, rfl⟩

def yields (P : Program) (o : Oper) (F : Act) (W : World) : Yield → Prop
  | .val v => ∀ w, Below W.heap.size W w → stays P w v ((execOp F.eval o).run P w)
  | .box b => ∀ w, (execOp F.eval o).run P w = .ok (.value (.pointer (some ⟨w.heap.size, 0, none⟩))) (w.alloc b)

def allYield (P : Program) (F : Act) (W : World) : List Oper → List Yield → Prop
  | o :: os, y :: ys => yields P o F W y ∧ allYield P F W os ys
  | _, _ => True

theorem allYield_at {F : Act} {W : World} : ∀ {os : List Oper} {ys : List Yield} {i : Nat} {o : Oper} {y : Yield}, allYield P F W os ys → os[i]? = some o → ys[i]? = some y → yields P o F W y
  | o :: os, y :: ys, 0, _, _, h, h1, h2 => by
    simp only [List.getElem?_cons_zero, Option.some.injEq] at h1 h2; subst h1 h2; exact h.1
  | o :: os, y :: ys, i + 1, _, _, h, h1, h2 => by
    simp only [List.getElem?_cons_succ] at h1 h2; exact allYield_at h.2 h1 h2
  | [], _, _, _, _, _, h1, _ => by simp at h1
  | _ :: _, [], _, _, _, _, _, h2 => by simp at h2

/-- The frame with all that was left. -/
def fill (g : Nat → Nat) : Nat → List Oper → List Yield → Act → Act
  | k, o :: os, y :: ys, a => fill g (k + 1) os ys (a.put o.dst (y.value (g k)))
  | _, _, _, a => a

theorem put_size (a : Act) (d : Option Tmp) (v : Value) : (a.put d v).tmps.size = a.tmps.size := by cases d <;> simp [Act.put]
theorem put_defers (a : Act) (d : Option Tmp) (v : Value) : (a.put d v).defers = a.defers := by cases d <;> rfl
theorem put_slot (a : Act) (d : Tmp) (v : Value) (h : d < a.tmps.size) : (a.put (some d) v).tmps.getD d undef = v := by simp [Act.put, h]
theorem put_other (a : Act) (d : Option Tmp) (v : Value) (t : Tmp) (h : d ≠ some t) : (a.put d v).tmps.getD t undef = a.tmps.getD t undef := by
  cases d with
  | none => rfl
  | some d =>
    have hne : d ≠ t := fun e => h (by rw [e])
    simp [Act.put, Array.getElem?_setIfInBounds_ne hne]

theorem fill_size (g : Nat → Nat) : ∀ (k : Nat) (os : List Oper) (ys : List Yield) (a : Act), (fill g k os ys a).tmps.size = a.tmps.size
  | k, o :: os, y :: ys, a => by rw [fill, fill_size g (k + 1) os ys, put_size]
  | _, [], _, _ => rfl
  | _, _ :: _, [], _ => rfl
theorem fill_defers (g : Nat → Nat) : ∀ (k : Nat) (os : List Oper) (ys : List Yield) (a : Act), (fill g k os ys a).defers = a.defers
  | k, o :: os, y :: ys, a => by rw [fill, fill_defers g (k + 1) os ys, put_defers]
  | _, [], _, _ => rfl
  | _, _ :: _, [], _ => rfl
theorem fill_other (g : Nat → Nat) (t : Tmp) : ∀ (k : Nat) (os : List Oper) (ys : List Yield) (a : Act), (∀ i o, i < ys.length → os[i]? = some o → o.dst ≠ some t) → (fill g k os ys a).tmps.getD t undef = a.tmps.getD t undef
  | k, o :: os, y :: ys, a, h => by
    rw [fill, fill_other g t (k + 1) os ys _ (fun i o hi ho => h (i + 1) o (by simp; omega) (by simpa using ho)), put_other _ _ _ _ (h 0 o (by simp) rfl)]
  | _, [], _, _, _ => rfl
  | _, _ :: _, [], _, _ => rfl
theorem fill_slot (g : Nat → Nat) (d : Tmp) : ∀ (k : Nat) (os : List Oper) (ys : List Yield) (a : Act) (i : Nat) (o : Oper) (y : Yield), d < a.tmps.size → os[i]? = some o → ys[i]? = some y → o.dst = some d →
    (∀ j p, j < ys.length → j ≠ i → os[j]? = some p → p.dst ≠ some d) → (fill g k os ys a).tmps.getD d undef = y.value (g (k + i))
  | k, o :: os, y :: ys, a, 0, _, _, hd, ho, hy, hdst, hne => by
    simp only [List.getElem?_cons_zero, Option.some.injEq] at ho hy
    subst ho hy
    rw [fill, fill_other g d (k + 1) os ys _ (fun i p hi hp => hne (i + 1) p (by simp; omega) (by omega) (by simpa using hp)), hdst, put_slot _ _ _ hd]
    rfl
  | k, o :: os, y :: ys, a, i + 1, o', y', hd, ho, hy, hdst, hne => by
    simp only [List.getElem?_cons_succ] at ho hy
    rw [fill, fill_slot g d (k + 1) os ys _ i o' y' (by rw [put_size]; exact hd) ho hy hdst (fun j p hj hji hp => hne (j + 1) p (by simp; omega) (by omega) (by simpa using hp))]
    congr 2
    omega
  | _, [], _, _, _, _, _, _, ho, _, _, _ => by simp at ho
  | _, _ :: _, [], _, _, _, _, _, _, hy, _, _ => by simp at hy

/-- What is asked of a region's text: of its first operations, that each writes a slot of its own and looks only at what it waits for, and at no new block. -/
def headB (l : List Oper) (bx : List Bool) (size : Nat) : Bool :=
  (List.range bx.length).all fun i => match l[i]? with
    | none => false
    | some o => o.guard.isNone && (match o.dst with | none => false | some d => decide (d < size)) && (o.after.all fun e => !Region.binds .any e || decide (e.on < i)) &&
      (List.range bx.length).all fun j => match l[j]? with
        | none => false
        | some p => (decide (i = j) || p.dst != o.dst) &&
          (match p.dst with | none => false | some d => !(o.looksAt l.toArray).contains d || (o.after.any (fun e => Region.binds .any e && e.on == j) && !(bx.getD j true)))

structure HeadOk (l : List Oper) (bx : List Bool) (size : Nat) : Prop where
  guard : ∀ i o, i < bx.length → l[i]? = some o → o.guard = none
  dst : ∀ i o, i < bx.length → l[i]? = some o → ∃ d, o.dst = some d ∧ d < size
  back : ∀ i o, i < bx.length → l[i]? = some o → ∀ e ∈ o.after, Region.binds .any e = true → e.on < i
  apart : ∀ i j o p, i < bx.length → j < bx.length → l[i]? = some o → l[j]? = some p → i ≠ j → p.dst ≠ o.dst
  looks : ∀ i j o p d, i < bx.length → j < bx.length → l[i]? = some o → l[j]? = some p → p.dst = some d → d ∈ o.looksAt l.toArray → (∃ e ∈ o.after, Region.binds .any e = true ∧ e.on = j) ∧ bx.getD j true = false
  there : ∀ i, i < bx.length → ∃ o, l[i]? = some o

theorem headOk {l : List Oper} {bx : List Bool} {size : Nat} (h : headB l bx size = true) : HeadOk l bx size := by
  have key : ∀ i, i < bx.length → ∃ o, l[i]? = some o ∧ o.guard = none ∧ (∃ d, o.dst = some d ∧ d < size) ∧ (∀ e ∈ o.after, Region.binds .any e = true → e.on < i) ∧
      ∀ j, j < bx.length → ∃ p, l[j]? = some p ∧ (i ≠ j → p.dst ≠ o.dst) ∧ ∀ d, p.dst = some d → d ∈ o.looksAt l.toArray → (∃ e ∈ o.after, Region.binds .any e = true ∧ e.on = j) ∧ bx.getD j true = false := by
    intro i hi
    have h1 := List.all_eq_true.1 h i (List.mem_range.2 hi)
    cases ho : l[i]? with
    | none => rw [ho] at h1; cases h1
    | some o =>
      simp only [ho, Bool.and_eq_true] at h1
      obtain ⟨⟨⟨h2, h3⟩, h4⟩, h5⟩ := h1
      refine ⟨o, rfl, by simpa using h2, ?_, ?_, ?_⟩
      · cases hd : o.dst with
        | none => rw [hd] at h3; cases h3
        | some d => rw [hd] at h3; exact ⟨d, rfl, by simpa using h3⟩
      · intro e he hb
        have := Array.all_eq_true'.1 h4 e he
        simpa [hb] using this
      · intro j hj
        have h6 := List.all_eq_true.1 h5 j (List.mem_range.2 hj)
        cases hp : l[j]? with
        | none => rw [hp] at h6; cases h6
        | some p =>
          simp only [hp, Bool.and_eq_true] at h6
          obtain ⟨h7, h8⟩ := h6
          refine ⟨p, rfl, fun hij => ?_, fun d hd hm => ?_⟩
          · have : (p.dst != o.dst) = true := by simpa [hij] using h7
            simpa using this
          · rw [hd] at h8
            have hc : (o.looksAt l.toArray).contains d = true := by simpa using hm
            simp only [hc, Bool.not_true, Bool.false_or, Bool.and_eq_true] at h8
            obtain ⟨h9, h10⟩ := h8
            obtain ⟨e, he, he2⟩ := Array.any_eq_true'.1 h9
            simp only [Bool.and_eq_true, beq_iff_eq] at he2
            exact ⟨⟨e, he, he2⟩, by simpa using h10⟩
  refine ⟨?_, ?_, ?_, ?_, ?_, ?_⟩
  · intro i o hi ho; obtain ⟨o', ho', h1, _⟩ := key i hi; rw [ho] at ho'; cases ho'; exact h1
  · intro i o hi ho; obtain ⟨o', ho', _, h1, _⟩ := key i hi; rw [ho] at ho'; cases ho'; exact h1
  · intro i o hi ho; obtain ⟨o', ho', _, _, h1, _⟩ := key i hi; rw [ho] at ho'; cases ho'; exact h1
  · intro i j o p hi hj ho hp hij; obtain ⟨o', ho', _, _, _, h1⟩ := key i hi; rw [ho] at ho'; cases ho'
    obtain ⟨p', hp', h2, _⟩ := h1 j hj; rw [hp] at hp'; cases hp'; exact h2 hij
  · intro i j o p d hi hj ho hp hd hm; obtain ⟨o', ho', _, _, _, h1⟩ := key i hi; rw [ho] at ho'; cases ho'
    obtain ⟨p', hp', _, h2⟩ := h1 j hj; rw [hp] at hp'; cases hp'; exact h2 d hd hm
  · intro i hi; obtain ⟨o', ho', _⟩ := key i hi; exact ⟨o', ho'⟩

/-- The state of the region's head. -/
structure Boxing (l : List Oper) (ys : List Yield) (a0 : Act) (W : World) (g : Nat → Nat) (listed : Array Bool) (a : Act) (w : World) : Prop where
  size : a.tmps.size = a0.tmps.size
  defers : a.defers = a0.defers
  below : Below W.heap.size W w
  other : ∀ t, (∀ i o, i < ys.length → l[i]? = some o → listed.getD i false = true → o.dst ≠ some t) → a.tmps.getD t undef = a0.tmps.getD t undef
  slot : ∀ i o y d, l[i]? = some o → ys[i]? = some y → listed.getD i false = true → o.dst = some d → a.tmps.getD d undef = y.value (g i)
  boxes : ∀ i b, ys[i]? = some (.box b) → listed.getD i false = true → W.heap.size ≤ g i ∧ w.heap[g i]? = some b
  apart : ∀ i j b c, i ≠ j → ys[i]? = some (.box b) → ys[j]? = some (.box c) → listed.getD i false = true → listed.getD j false = true → g i ≠ g j

theorem getD_set_cases {listed : Array Bool} {i j : Nat} (h : (listed.setIfInBounds i true).getD j false = true) : j = i ∨ listed.getD j false = true := by
  by_cases hji : i = j
  · exact .inl hji.symm
  · rw [getD_set_ne false hji] at h; exact .inr h

theorem Yield.value_val {y : Yield} (h : y.isBox = false) (g g' : Nat) : y.value g = y.value g' := by cases y <;> first | rfl | cases h

variable {l : List Oper} {ys : List Yield} {a0 : Act} {W : World}

theorem eval_tmp (a : Act) (t : Tmp) : a.eval (.tmp t) = a.tmps.getD t undef := rfl

/-- An operation whose turn it is does in the frame at hand what it does in the full one. -/
theorem Boxing.same {g g' : Nat → Nat} {listed : Array Bool} {a : Act} {w : World} (ok : HeadOk l (ys.map Yield.isBox) a0.tmps.size) (h : Boxing l ys a0 W g listed a w) (hs : Region.noSelect l.toArray = true) {i : Nat} {o : Oper} (hi : i < ys.length) (ho : l[i]? = some o)
    (hd : ∀ e ∈ o.after, Region.binds .any e = true → listed.getD e.on false = true) : execOp a.eval o = execOp (fill g' 0 l ys a0).eval o := by
  have hsel : ∀ cs b, o.op ≠ .select cs b := fun cs b => Region.noSelect_spec hs i o cs b (by simpa using ho)
  refine execOp_congr o hsel fun x hx => ?_
  cases x with
  | tmp t =>
    have hm : t ∈ o.looksAt l.toArray := List.mem_append_left _ (List.mem_filterMap.2 ⟨.tmp t, by simpa using hx, rfl⟩)
    rw [eval_tmp, eval_tmp]
    by_cases hex : ∃ j p, j < ys.length ∧ l[j]? = some p ∧ p.dst = some t
    · obtain ⟨j, p, hj, hp, hpt⟩ := hex
      obtain ⟨⟨e, he, hb, hon⟩, hbx⟩ := ok.looks i j o p t (by simpa using hi) (by simpa using hj) ho hp hpt hm
      have hlj : listed.getD j false = true := by rw [← hon]; exact hd e he hb
      have hy : ys[j]? = some ys[j] := by simp [hj]
      have hbx' : (ys[j]).isBox = false := by simpa [hj] using hbx
      obtain ⟨d, hd1, hd2⟩ := ok.dst j p (by simpa using hj) hp
      have htd : t = d := by rw [hd1] at hpt; exact (Option.some.inj hpt).symm
      rw [h.slot j p _ t hp hy hlj hpt, fill_slot g' t 0 l ys a0 j p _ (by rw [htd]; exact hd2) hp hy hpt (fun k q hk hkj hq e => ok.apart j k p q (by simpa using hj) (by simpa using hk) hp hq (Ne.symm hkj) (by rw [e, hpt]))]
      exact Yield.value_val hbx' _ _
    · rw [h.other t (fun j p hj hp _ e => hex ⟨j, p, hj, hp, e⟩), fill_other g' t 0 l ys a0 (fun j p hj hp e => hex ⟨j, p, hj, hp, e⟩)]
  | _ => rfl

theorem Boxing.step {g g' : Nat → Nat} {listed : Array Bool} {a : Act} {w : World} {Q : Exit → Act → World → Prop} (ok : HeadOk l (ys.map Yield.isBox) a0.tmps.size) (h : Boxing l ys a0 W g listed a w) (hs : Region.noSelect l.toArray = true)
    (hall : allYield P (fill g' 0 l ys a0) W l ys) (hsz : listed.size = l.toArray.size) {i : Nat} (hi : i < ys.length) (hr : i ∈ Region.ready .any l.toArray listed) :
    wpOp P l.toArray Q i (fun a' w' => ∃ g, Boxing l ys a0 W g (listed.setIfInBounds i true) a' w') a w := by
  obtain ⟨hun, o, ho, hdep⟩ := mem_ready.1 hr
  have ho' : l[i]? = some o := by simpa using ho
  have hy : ys[i]? = some ys[i] := by simp [hi]
  obtain ⟨d, hd1, hd2⟩ := ok.dst i o (by simpa using hi) ho'
  have hg := ok.guard i o (by simpa using hi) ho'
  have hw : Region.wanted o (yielded l.toArray a.tmps) = true := by simp [Region.wanted, hg]
  have hsame := h.same (g' := g') ok hs hi ho' hdep
  have hY := allYield_at hall ho' hy
  have hun' : listed.getD i false = false := getD_both hun
  have hin : i < listed.size := by
    rw [hsz]; simpa using (List.getElem?_eq_some_iff.1 ho').1
  have hset : (listed.setIfInBounds i true).getD i false = true := by simp [hin]
  -- what the frame is behind it
  have size' : ∀ v, (a.put o.dst v).tmps.size = a0.tmps.size := fun v => by rw [put_size, h.size]
  have other' : ∀ v t, (∀ j p, j < ys.length → l[j]? = some p → (listed.setIfInBounds i true).getD j false = true → p.dst ≠ some t) → (a.put o.dst v).tmps.getD t undef = a0.tmps.getD t undef := by
    intro v t ht
    rw [put_other _ _ _ _ (ht i o hi ho' hset)]
    refine h.other t fun j p hj hp hl => ht j p hj hp ?_
    by_cases hij : i = j
    · subst hij; rw [hun'] at hl; cases hl
    · rw [getD_set_ne false hij]; exact hl
  have slot' : ∀ (gg : Nat → Nat) (v : Value), v = (ys[i]).value (gg i) → (∀ j, j ≠ i → gg j = g j) → ∀ j p y t, l[j]? = some p → ys[j]? = some y → (listed.setIfInBounds i true).getD j false = true → p.dst = some t →
      (a.put o.dst v).tmps.getD t undef = y.value (gg j) := by
    intro gg v hv hgg j p y t hp hyj hl ht
    by_cases hij : j = i
    · subst hij
      rw [ho'] at hp; cases hp
      rw [hy] at hyj; cases hyj
      rw [hd1] at ht; cases ht
      rw [hd1, put_slot _ _ _ (by rw [h.size]; exact hd2), hv]
    · rcases getD_set_cases hl with e | hl'
      · exact absurd e hij
      · have hj : j < ys.length := (List.getElem?_eq_some_iff.1 hyj).1
        rw [put_other _ _ _ _ (fun e => ok.apart j i p o (by simpa using hj) (by simpa using hi) hp ho' hij (by rw [e, ht])), h.slot j p y t hp hyj hl' ht, hgg j hij]
  -- boxes stay under a world that only grows
  have boxes' : ∀ (w' : World), Below w.heap.size w w' → (∀ b, ys[i]? ≠ some (.box b)) → ∀ j b, ys[j]? = some (.box b) → (listed.setIfInBounds i true).getD j false = true → W.heap.size ≤ g j ∧ w'.heap[g j]? = some b := by
    intro w' hb hnb j b hyj hl
    rcases getD_set_cases hl with e | hl'
    · subst e; exact absurd hyj (hnb b)
    · obtain ⟨h1, h2⟩ := h.boxes j b hyj hl'
      exact ⟨h1, by rw [hb.block _ (lt_of_block h2)]; exact h2⟩
  have apart' : (∀ b, ys[i]? ≠ some (.box b)) → ∀ j k b c, j ≠ k → ys[j]? = some (.box b) → ys[k]? = some (.box c) → (listed.setIfInBounds i true).getD j false = true → (listed.setIfInBounds i true).getD k false = true → g j ≠ g k := by
    intro hnb j k b c hjk hj hk hlj hlk
    rcases getD_set_cases hlj with e | hlj'
    · subst e; exact absurd hj (hnb b)
    · rcases getD_set_cases hlk with e | hlk'
      · subst e; exact absurd hk (hnb c)
      · exact h.apart j k b c hjk hj hk hlj' hlk'
  unfold wpOp
  simp only [ho, hw, if_true]
  left
  unfold Oper.wp
  rw [hsame]
  revert hY
  generalize hyi : ys[i] = y at *
  cases y with
  | val v =>
    intro hY
    have hnb : ∀ b, ys[i]? ≠ some (.box b) := fun b e => by rw [hy] at e; cases e
    have h3 := hY w h.below
    generalize (execOp (fill g' 0 l ys a0).eval o).run P w = r at *
    cases r with
    | ok nx w' =>
      cases nx <;> simp only [stays] at h3 <;> simp only [Oper.upon]
      case value u =>
        obtain ⟨rfl, rfl⟩ := h3
        exact ⟨g, size' _, by rw [put_defers, h.defers], h.below, other' _, slot' g _ rfl (fun _ _ => rfl), boxes' _ (Below.refl _ _) hnb, apart' hnb⟩
      case enter f args =>
        obtain ⟨rfl, hc⟩ := h3
        refine hc.mono fun e w'' ⟨he, hb⟩ => ?_
        subst he
        exact ⟨g, size' _, by rw [put_defers, h.defers], h.below.trans (hb.mono h.below.size), other' _, slot' g _ rfl (fun _ _ => rfl), boxes' _ hb hnb, apart' hnb⟩
    | halt x w' => simp only [stays] at h3
  | box b =>
    intro hY
    rw [hY w]
    simp only [Oper.upon]
    obtain ⟨gg, hgi, hgj⟩ : ∃ gg : Nat → Nat, gg i = w.heap.size ∧ ∀ j, j ≠ i → gg j = g j := ⟨fun j => if j = i then w.heap.size else g j, by simp, fun j hj => by simp [hj]⟩
    refine ⟨gg, size' _, by rw [put_defers, h.defers], h.below.alloc h.below.size b, other' _, slot' gg _ (by rw [hgi]; rfl) hgj, ?_, ?_⟩
    · intro j c hj hl
      by_cases hji : j = i
      · subst hji
        rw [hy] at hj; cases hj
        rw [hgi]
        exact ⟨h.below.size, by show (w.heap.push b)[w.heap.size]? = some b; simp⟩
      · rcases getD_set_cases hl with e | hl'
        · exact absurd e hji
        · obtain ⟨h1, h2⟩ := h.boxes j c hj hl'
          rw [hgj j hji]
          exact ⟨h1, by rw [Below.heap_alloc _ _ _ (lt_of_block h2)]; exact h2⟩
    · intro j k c1 c2 hjk hj hk hlj hlk
      by_cases hji : j = i
      · have hki : k ≠ i := fun e => hjk (hji.trans e.symm)
        rcases getD_set_cases hlk with e | hlk'
        · exact absurd e hki
        · have := lt_of_block (h.boxes k c2 hk hlk').2
          rw [hgj k hki, hji, hgi]; omega
      · rcases getD_set_cases hlj with e | hlj'
        · exact absurd e hji
        · by_cases hki : k = i
          · have := lt_of_block (h.boxes j c1 hj hlj').2
            rw [hgj j hji, hki, hgi]; omega
          · rcases getD_set_cases hlk with e | hlk'
            · exact absurd e hki
            · rw [hgj j hji, hgj k hki]; exact h.apart j k c1 c2 hjk hj hk hlj' hlk'

/-- Behind the whole head the frame is the full one. -/
theorem Boxing.full {g : Nat → Nat} {listed : Array Bool} {a : Act} {w : World} (ok : HeadOk l (ys.map Yield.isBox) a0.tmps.size) (h : Boxing l ys a0 W g listed a w) (hl : ∀ i, i < ys.length → listed.getD i false = true) : a = fill g 0 l ys a0 := by
  have hsz : a.tmps.size = (fill g 0 l ys a0).tmps.size := by rw [fill_size, h.size]
  have hslot : ∀ t, a.tmps.getD t undef = (fill g 0 l ys a0).tmps.getD t undef := by
    intro t
    by_cases hex : ∃ j p, j < ys.length ∧ l[j]? = some p ∧ p.dst = some t
    · obtain ⟨j, p, hj, hp, hpt⟩ := hex
      have hy : ys[j]? = some ys[j] := by simp [hj]
      obtain ⟨d, hd1, hd2⟩ := ok.dst j p (by simpa using hj) hp
      have htd : t = d := by rw [hd1] at hpt; exact (Option.some.inj hpt).symm
      rw [h.slot j p _ t hp hy (hl j hj) hpt, fill_slot g t 0 l ys a0 j p _ (by rw [htd]; exact hd2) hp hy hpt (fun k q hk hkj hq e => ok.apart j k p q (by simpa using hj) (by simpa using hk) hp hq (Ne.symm hkj) (by rw [e, hpt])), Nat.zero_add]
    · rw [h.other t (fun j p hj hp _ e => hex ⟨j, p, hj, hp, e⟩), fill_other g t 0 l ys a0 (fun j p hj hp e => hex ⟨j, p, hj, hp, e⟩)]
  have ht : a.tmps = (fill g 0 l ys a0).tmps := by
    refine Array.ext hsz fun t h1 h2 => ?_
    have := hslot t
    simpa [h1, h2] using this
  have hdf : a.defers = (fill g 0 l ys a0).defers := by rw [fill_defers, h.defers]
  generalize fill g 0 l ys a0 = F at *
  cases a; cases F
  simp only at ht hdf
  subst ht hdf
  rfl

/-- A region that draws its order: the operations of its head leave what is listed; new blocks are apart; then its tail, one by one. -/
theorem wp_region_boxes {id : Nat} {Q : Exit → Act → World → Prop} (ys : List Yield) (hm : P.follows .mixedOrders = true)
    (hB : (Region.noSelect l.toArray && decide (ys.length < l.toArray.size) && Region.sinkB .any l.toArray ys.length && Region.chainB .any l.toArray ys.length &&
      Region.seqB .any l.toArray (l.toArray.size - ys.length) ys.length ((List.replicate ys.length true ++ List.replicate (l.toArray.size - ys.length) false).toArray) && headB l (ys.map Yield.isBox) a0.tmps.size) = true)
    (hall : allYield P (fill (fun _ => 0) 0 l ys a0) W l ys)
    (hend : ∀ (g : Nat → Nat) (w' : World), Below W.heap.size W w' → (∀ i b, ys[i]? = some (.box b) → W.heap.size ≤ g i ∧ w'.heap[g i]? = some b) →
      (∀ i j b c, i ≠ j → ys[i]? = some (.box b) → ys[j]? = some (.box c) → g i ≠ g j) → wpList P l.toArray Q (l.drop ys.length) (fill g 0 l ys a0) w') :
    (Code.region id l.toArray true).wp P Q a0 W := by
  simp only [Bool.and_eq_true, decide_eq_true_eq] at hB
  obtain ⟨⟨⟨⟨⟨hsel, hn⟩, hs⟩, hc⟩, hseq⟩, hhead⟩ := hB
  have ok := headOk hhead
  have hn' : ys.length < l.length := by simpa using hn
  have hdl : (l.drop ys.length).length = l.toArray.size - ys.length := by simp
  refine wp_region_any hm ?_
  have key : ∀ (f : Nat) (listed : Array Bool) (a : Act) (w : World) (g : Nat → Nat), HeadInv .any l.toArray ys.length listed → unlisted listed = f + (l.toArray.size - ys.length) → Boxing l ys a0 W g listed a w →
      wpAny P .any l.toArray Q (f + (l.toArray.size - ys.length)) listed a w := by
    intro f
    induction f with
    | zero =>
      intro listed a w g inv hu hb
      have hls : listed.size = l.length := by have := inv.size; simpa using this
      -- all of the head has come up
      have hcount : listed.toList.countP (fun b => !b) = l.length - ys.length := by
        unfold unlisted at hu; simpa using hu
      have htail : listed.toList.drop ys.length = List.replicate (l.length - ys.length) false := by
        refine List.ext_getElem (by simp [hls]) fun k h1 h2 => ?_
        have hk : ys.length + k < listed.size := by simp at h1; omega
        have := inv.tail (ys.length + k) (by omega) (by rw [← inv.size]; exact hk)
        simpa [hk] using this
      have hsplit : listed.toList = listed.toList.take ys.length ++ List.replicate (l.length - ys.length) false := by rw [← htail, List.take_append_drop]
      have hh : (listed.toList.take ys.length).countP (fun b => !b) = 0 := by
        rw [hsplit, List.countP_append] at hcount
        have hr : (List.replicate (l.length - ys.length) false).countP (fun b => !b) = l.length - ys.length := by rw [List.countP_replicate]; simp
        rw [hr] at hcount
        omega
      have hhead : listed.toList.take ys.length = List.replicate ys.length true := by
        have hlen : (listed.toList.take ys.length).length = ys.length := by simp [hls]; omega
        rw [List.eq_replicate_iff]
        refine ⟨hlen, fun b hb => ?_⟩
        have := List.countP_eq_zero.1 hh b hb
        simpa using this
      have hlisted : listed = (List.replicate ys.length true ++ List.replicate (l.toArray.size - ys.length) false).toArray := by
        have h1 : listed = listed.toList.toArray := by simp
        rw [h1, hsplit, hhead]
        simp
      have hall' : ∀ i, i < ys.length → listed.getD i false = true := by
        intro i hi
        rw [hlisted, Array.getD_eq_getD_getElem?, List.getElem?_toArray, List.getElem?_append_left (by simpa using hi)]
        simp [hi]
      have hfull := hb.full ok hall'
      have := wpAny_of_seq (P := P) (ops := l.toArray) (md := .any) (Q' := Q) (l.drop ys.length) ys.length listed a w (fun j => by simp [List.getElem?_drop]) (by rw [hdl, hlisted]; exact hseq) (by
        rw [hfull]
        exact hend g w hb.below (fun i b hi => hb.boxes i b hi (hall' i (List.getElem?_eq_some_iff.1 hi).1)) (fun i j b c hij hi hj => hb.apart i j b c hij hi hj (hall' i (List.getElem?_eq_some_iff.1 hi).1) (hall' j (List.getElem?_eq_some_iff.1 hj).1)))
      rwa [hdl, ← Nat.zero_add (l.toArray.size - ys.length)] at this
    | succ f ih =>
      intro listed a w g inv hu hb
      -- the first one of the head that has not come up
      have hex : ∃ i, i < ys.length ∧ listed.getD i false = false := by
        refine Classical.byContradiction fun hno => ?_
        have hno' : ∀ i, i < ys.length → listed.getD i false = true := fun i hi => by
          cases h : listed.getD i false with
          | true => rfl
          | false => exact absurd ⟨i, hi, h⟩ hno
        have hls : listed.size = l.length := by have := inv.size; simpa using this
        have h0 : (listed.toList.take ys.length).countP (fun b => !b) = 0 := by
          rw [List.countP_eq_zero]
          intro b hb'
          obtain ⟨k, hk, rfl⟩ := List.getElem_of_mem hb'
          have hk1 : k < ys.length := by simp at hk; omega
          have hk2 : k < listed.size := by omega
          have := hno' k hk1
          simpa [hk2] using this
        have h1 := List.countP_le_length (p := fun b => !b) (l := listed.toList.drop ys.length)
        have h2 : unlisted listed = (listed.toList.take ys.length).countP (fun b => !b) + (listed.toList.drop ys.length).countP (fun b => !b) := by
          unfold unlisted; rw [← List.countP_append, List.take_append_drop]
        simp only [List.length_drop, Array.length_toList, hls] at h1
        have h3 : l.toArray.size = l.length := by simp
        omega
      have hleast : ∀ m : Nat, (∃ i, i < m ∧ i < ys.length ∧ listed.getD i false = false) → ∃ i, i < ys.length ∧ listed.getD i false = false ∧ ∀ j, j < i → listed.getD j false = true := by
        intro m
        induction m with
        | zero => rintro ⟨i, hi, _⟩; omega
        | succ m ih2 =>
          rintro ⟨i, hi, hiy, hil⟩
          by_cases hsm : ∃ j, j < m ∧ j < ys.length ∧ listed.getD j false = false
          · exact ih2 hsm
          · refine ⟨i, hiy, hil, fun j hj => ?_⟩
            cases h : listed.getD j false with
            | true => rfl
            | false => exact absurd ⟨j, by omega, by omega, h⟩ hsm
      obtain ⟨i, hi, hil, hlt⟩ := hleast ys.length (by obtain ⟨i, h1, h2⟩ := hex; exact ⟨i, h1, h1, h2⟩)
      have hsize : ∀ k, k < ys.length → k < listed.size := fun k hk => by rw [inv.size]; omega
      have hready : i ∈ Region.ready .any l.toArray listed := by
        obtain ⟨o, ho⟩ := ok.there i (by simpa using hi)
        exact mem_ready.2 ⟨getD_in (hsize i hi) hil, o, by simpa using ho, fun e he hbd => hlt _ (ok.back i o (by simpa using hi) ho e he hbd)⟩
      rw [show f + 1 + (l.toArray.size - ys.length) = (f + (l.toArray.size - ys.length)) + 1 by omega]
      refine ⟨fun h0 => (by rw [h0] at hready; cases hready), fun j hj => ?_⟩
      have hjn : j < ys.length := by
        rcases Nat.lt_or_ge j ys.length with h | h
        · exact h
        · exact absurd hj (tail_waits hs hc hn inv _ i rfl hi (getD_in (hsize i hi) hil) j h)
      refine wpOp_mono (fun a' w' ⟨g', hb'⟩ => ih _ a' w' g' (inv.set hj hjn) ?_ hb') (hb.step ok hsel hall inv.size hjn hj)
      have := unlisted_set (mem_ready.1 hj).1
      omega
  have inv0 : HeadInv .any l.toArray ys.length (Array.replicate l.toArray.size false) :=
    ⟨by simp, fun j oj _ hl => (by rw [getD_replicate_false] at hl; cases hl), fun t _ ht => getD_in (by simpa using ht) (getD_replicate_false _ _)⟩
  have hu : unlisted (Array.replicate l.toArray.size false) = ys.length + (l.toArray.size - ys.length) := by
    unfold unlisted
    rw [Array.toList_replicate, List.countP_replicate]
    simp
    omega
  have := key ys.length _ a0 { W with drawn := W.drawn + 1 } (fun _ => 0) inv0 hu
    ⟨rfl, rfl, ⟨rfl, rfl, rfl, Nat.le_refl _, fun _ _ => rfl⟩, fun _ _ => rfl, fun i o y d _ _ hl => (by rw [getD_replicate_false] at hl; cases hl), fun i b _ hl => (by rw [getD_replicate_false] at hl; cases hl),
      fun i j b c _ _ _ hl => (by rw [getD_replicate_false] at hl; cases hl)⟩
  rwa [show ys.length + (l.toArray.size - ys.length) = l.toArray.size by omega] at this

end
end Go.Proofs.YtfomhdhiibcdfaaGreat.Strut

/-! What lists of margins come to, in pieces and in other orders; contracts that tell their results. -/
namespace Go.Proofs.YtfomhdhiibcdfaaGreat.Strut
open Go.RowKit Go.Sort

theorem fold_max (xs : List Int) : ∀ a b : Int, xs.foldl max (max a b) = max a (xs.foldl max b) := by
  induction xs with
  | nil => intro a b; rfl
  | cons n l ih => intro a b; simp only [List.foldl_cons]; rw [show max (max a b) n = max a (max b n) by omega, ih]
theorem fold_min (xs : List Int) : ∀ a b : Int, xs.foldl min (min a b) = min a (xs.foldl min b) := by
  induction xs with
  | nil => intro a b; rfl
  | cons n l ih => intro a b; simp only [List.foldl_cons]; rw [show min (min a b) n = min a (min b n) by omega, ih]

theorem most_zero (xs : List Int) : max (mostOf xs) 0 = mostOf xs := by
  have := fold_max xs 0 0
  unfold mostOf
  rw [show max (0 : Int) 0 = 0 by rfl] at this
  omega
theorem least_zero (xs : List Int) : min (leastOf xs) 0 = leastOf xs := by
  have := fold_min xs 0 0
  unfold leastOf
  rw [show min (0 : Int) 0 = 0 by rfl] at this
  omega

theorem most_append (xs ys : List Int) : mostOf (xs ++ ys) = max (mostOf xs) (mostOf ys) := by
  have := fold_max ys (mostOf xs) 0
  rw [most_zero] at this
  unfold mostOf at *
  rw [List.foldl_append, this]
theorem least_append (xs ys : List Int) : leastOf (xs ++ ys) = min (leastOf xs) (leastOf ys) := by
  have := fold_min ys (leastOf xs) 0
  rw [least_zero] at this
  unfold leastOf at *
  rw [List.foldl_append, this]

theorem most_reverse (xs : List Int) : mostOf xs.reverse = mostOf xs := by
  induction xs with
  | nil => rfl
  | cons n l ih =>
    rw [List.reverse_cons, most_append, ih, show n :: l = [n] ++ l from rfl, most_append]
    omega
theorem least_reverse (xs : List Int) : leastOf xs.reverse = leastOf xs := by
  induction xs with
  | nil => rfl
  | cons n l ih =>
    rw [List.reverse_cons, least_append, ih, show n :: l = [n] ++ l from rfl, least_append]
    omega

theorem most_split (xs : List Int) (k : Nat) : max (mostOf (xs.take k)) (mostOf (xs.drop k)) = mostOf xs := by
  rw [← most_append, List.take_append_drop]
theorem least_split (xs : List Int) (k : Nat) : min (leastOf (xs.take k)) (leastOf (xs.drop k)) = leastOf xs := by
  rw [← least_append, List.take_append_drop]

theorem most_again (xs : List Int) (k : Nat) (h : k < xs.length) : max (mostOf xs) (xs.getD k 0) = mostOf xs := by
  have h1 := mostOf_take xs k h
  have h2 := most_split xs (k + 1)
  omega
theorem least_again (xs : List Int) (k : Nat) (h : k < xs.length) : min (leastOf xs) (xs.getD k 0) = leastOf xs := by
  have h1 := leastOf_take xs k h
  have h2 := least_split xs (k + 1)
  omega

theorem getD_reverse (xs : List Int) (k : Nat) (h : k < xs.length) : xs.reverse.getD k 0 = xs.getD (xs.length - 1 - k) 0 := by
  have h2 : xs.length - 1 - k < xs.length := by omega
  simp [List.getD, h, h2]

/-- Two ints of a block. -/
def R2 (w : World) (b : Nat) (p q : Int) : Prop := w.cell? ⟨b, 0, none⟩ = some (.int .i64 p) ∧ w.cell? ⟨b, 1, none⟩ = some (.int .i64 q)
theorem R2.below {W w : World} {b : Nat} {p q : Int} (h : R2 W b p q) (hb : Below W.heap.size W w) : R2 w b p q := by
  have h1 := World.block_lt_of_cell? _ _ h.1
  exact ⟨by rw [hb.cell (p := ⟨b, 0, none⟩) h1]; exact h.1, by rw [hb.cell (p := ⟨b, 1, none⟩) h1]; exact h.2⟩
theorem R2.grown {w : World} {b : Nat} {p q : Int} (h : R2 w b p q) : (∀ d os, (grow (redrawn w d) os).cell? ⟨b, 0, none⟩ = some (.int .i64 p)) ∧ (∀ d os, (grow (redrawn w d) os).cell? ⟨b, 1, none⟩ = some (.int .i64 q)) :=
  ⟨fun d os => cell_regrown h.1 d os, fun d os => cell_regrown h.2 d os⟩
theorem R2.of_block {w : World} {b : Nat} {p q : Int} {t : TypeId} (h : w.heap[b]? = some (.cells #[.int .i64 p, .int .i64 q] t)) : R2 w b p q :=
  ⟨by simp [World.cell?, h], by simp [World.cell?, h]⟩

/-- The front and the back of a list. -/
theorem Nums.front {w : World} {B : Nat} {A : Option Addr} {xs : List Int} (h : Nums w B A xs) (k : Nat) : Nums w B A (xs.take k) := fun i hi => by
  rw [List.length_take] at hi
  obtain ⟨ad, e, hb, hc⟩ := h i (by omega)
  refine ⟨ad, e, hb, ?_⟩
  rw [hc]
  simp only [List.getD, List.getElem?_take]
  rw [if_pos (by omega)]
theorem Nums.back {w : World} {B : Nat} {ad : Addr} {xs : List Int} (h : Nums w B (some ad) xs) (k : Nat) : Nums w B (some (ad.add k)) (xs.drop k) := fun i hi => by
  rw [List.length_drop] at hi
  obtain ⟨ad', e, hb, hc⟩ := h (k + i) (by omega)
  injection e with e
  subst e
  refine ⟨_, rfl, by rw [block_of_add]; exact hb, ?_⟩
  rw [Addr.add_add, hc]
  simp [List.getD]

/-- Where the back of a slice lies. -/
def backA (A : Option Addr) (c k : Nat) : Option Addr := if c = k then A else Option.map (fun x => x.add k) A

theorem Nums.back' {w : World} {B : Nat} {A : Option Addr} {n c : Nat} {xs : List Int} (h : Nums w B A xs) (hn : n = xs.length) (hc : n ≤ c) (k : Nat) (hk : k ≤ n) : Nums w B (backA A c k) (xs.drop k) := by
  cases A with
  | none =>
    have : xs.drop k = [] := by
      rcases Nat.eq_zero_or_pos xs.length with h0 | h0
      · exact List.drop_eq_nil_of_le (by omega)
      · obtain ⟨ad, e, _⟩ := h 0 h0
        cases e
    rw [this]
    exact nums0 _ _ _
  | some ad =>
    unfold backA
    split
    · rw [List.drop_eq_nil_of_le (by omega)]
      exact nums0 _ _ _
    · exact h.back k

theorem free2 {w : World} {g : Nat} {p q : Int} {T : TypeId} (h : w.heap[g]? = some (.cells #[.int .i64 p, .int .i64 q] T)) : w.frozen? ⟨g, 0, none⟩ = false ∧ w.frozen? ⟨g, 1, none⟩ = false := by
  refine ⟨?_, ?_⟩ <;> simp [World.frozen?, h]

theorem set2 {w : World} {g : Nat} {p q : Int} {T : TypeId} (h : w.heap[g]? = some (.cells #[.int .i64 p, .int .i64 q] T)) (y z : Int) :
    ((w.setCell ⟨g, 0, none⟩ (.int .i64 y)).setCell ⟨g, 1, none⟩ (.int .i64 z)).heap[g]? = some (.cells #[.int .i64 y, .int .i64 z] T) := by
  simp [World.setCell, Array.getElem?_modify, h]

theorem set2_other {w : World} {g k : Nat} (hne : k ≠ g) (y z : Value) : ((w.setCell ⟨g, 0, none⟩ y).setCell ⟨g, 1, none⟩ z).heap[k]? = w.heap[k]? := by
  rw [Below.heap_setCell _ _ _ _ hne, Below.heap_setCell _ _ _ _ hne]

/-- Three new blocks into which two numbers each were stored. -/
theorem stored_three {W w : World} {g1 g2 g3 : Nat} (k : Below W.heap.size W w) {x0 x1 y0 y1 z0 z1 : Int} {T : TypeId}
    (b1 : W.heap.size ≤ g1) (h1 : w.heap[g1]? = some (.cells #[.int .i64 x0, .int .i64 x1] T)) (b2 : W.heap.size ≤ g2) (h2 : w.heap[g2]? = some (.cells #[.int .i64 y0, .int .i64 y1] T))
    (b3 : W.heap.size ≤ g3) (h3 : w.heap[g3]? = some (.cells #[.int .i64 z0, .int .i64 z1] T)) (h12 : g1 ≠ g2) (h13 : g1 ≠ g3) (h23 : g2 ≠ g3) (a b c d e f : Int) (V : World)
    (hV : V = (((((w.setCell ⟨g1, 0, none⟩ (.int .i64 a)).setCell ⟨g1, 1, none⟩ (.int .i64 b)).setCell ⟨g2, 0, none⟩ (.int .i64 c)).setCell ⟨g2, 1, none⟩ (.int .i64 d)).setCell ⟨g3, 0, none⟩ (.int .i64 e)).setCell ⟨g3, 1, none⟩ (.int .i64 f)) :
    R2 V g1 a b ∧ R2 V g2 c d ∧ R2 V g3 e f ∧ Below W.heap.size W V := by
  subst hV
  have s1 := set2 h1 a b
  have s2 : ((w.setCell ⟨g1, 0, none⟩ (.int .i64 a)).setCell ⟨g1, 1, none⟩ (.int .i64 b)).heap[g2]? = _ := (set2_other (Ne.symm h12) _ _).trans h2
  have s3 : ((w.setCell ⟨g1, 0, none⟩ (.int .i64 a)).setCell ⟨g1, 1, none⟩ (.int .i64 b)).heap[g3]? = _ := (set2_other (Ne.symm h13) _ _).trans h3
  refine ⟨R2.of_block (t := T) (by rw [set2_other h13, set2_other h12]; exact s1), R2.of_block (t := T) (by rw [set2_other h23]; exact set2 s2 c d), R2.of_block (t := T) (set2 (by rw [set2_other (Ne.symm h23)]; exact s3) e f), ?_⟩
  exact ((((((k.setCell b1 _).setCell b1 _).setCell b2 _).setCell b2 _).setCell b3 _).setCell b3 _)

end Go.Proofs.YtfomhdhiibcdfaaGreat.Strut
