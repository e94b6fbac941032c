/- Texts of this proof that follow each other, in one file. -/
import Derived.Test.YtflncnfagoekcaaPart10
import Derived.Test.YtflncnfagoekcaaPart11
import Derived.Test.YtflncnfagoekcaaPart9
import Derived.Test.YtflncnfagoekcaaPart13
import Derived.Test.YtflncnfagoekcaaPart1
import Derived.Shelf.Slices.Reverse
/-! What a body keeps that appends to a list of its own, which a captured variable holds. -/
namespace Go.Proofs.Ytflncnfagoekcaa.Walk
open Go.RowKit Go.Sort Go.Proofs.Ytflncnfagoekcaa.Record Go.Proofs.Ytflncnfagoekcaa.Script Go.Proofs.Ytflncnfagoekcaa.Tree Go.Proofs.Ytflncnfagoekcaa.More

theorem owns_is {mb : Nat} {W : World} {A : Option Addr} {n c : Nat} (h : W.cell? ⟨mb, 0, none⟩ = some (.slice A n c)) (k : Nat) : owns (some mb) W k ↔ blk A = some k := by
  constructor
  · rintro ⟨b, g, n', c', e, hc, rfl⟩
    injection e with e; subst e
    rw [h] at hc
    injection hc with hc
    injection hc with e1 _ _
    subst e1; rfl
  · intro hk
    cases A with
    | none => cases hk
    | some g => exact ⟨mb, g, n, c, rfl, h, by injection hk⟩

theorem StayB.of_more {mb s1 a b d : Nat} {W Z : World} {A A1 : Option Addr} {n c n1 c1 : Nat} (hc : W.cell? ⟨mb, 0, none⟩ = some (.slice A n c)) (hc1 : Z.cell? ⟨mb, 0, none⟩ = some (.slice A1 n1 c1))
    (hA : ∀ g, blk A = some g → b ≤ g) (hA1 : blk A1 = blk A ∨ ∀ g, blk A1 = some g → W.heap.size ≤ g) (hA2 : ∀ g, blk A1 = some g → g < Z.heap.size)
    (hs : ∀ k, k < W.heap.size → blk A ≠ some k → k ≠ mb → Z.heap[k]? = W.heap[k]?) (hl : Below s1 W Z) (hma : mb < a ∨ b ≤ mb) (hmb : mb < d) (hb : b ≤ W.heap.size) : StayB (some mb) s1 a b d W Z := by
  refine ⟨hl, fun k h1 h2 => hs k (by omega) (fun e => by have := hA k e; omega) (by omega), fun k o h1 h2 _ h4 => ⟨?_, ?_⟩, fun hw k hk => hA2 k ((owns_is hc1 k).1 hk)⟩
  · exact (hs k (Array.getElem?_eq_some_iff.1 h2).1 (fun e => h4 ((owns_is hc k).2 e)) (by omega)).trans h2
  · intro ho
    have e := (owns_is hc1 k).1 ho
    rcases hA1 with h | h
    · exact h4 ((owns_is hc k).2 (h ▸ e))
    · have := h k e
      have := (Array.getElem?_eq_some_iff.1 h2).1
      omega

/-- A number is appended, and the variable set. -/
theorem StayB.more {mb s1 a b d B : Nat} {t : TypeId} {W W1 : World} {A A1 : Option Addr} {l c c1 : Nat} {xs : List Int} {k : Int} (hv : Boxed W mb t (.slice A l c)) (hrow : Mine W B A l c xs) (hn : B ≤ W.heap.size) (hs1 : s1 ≤ mb) (hma : mb < a ∨ b ≤ mb) (hmb : mb < d) (hmB : mb < B) (hb : b ≤ B)
    (h : Appended (W.alloc (.cells #[.int .i64 k] 3)) B A l xs [k] 1 A1 c1 W1) :
    StayB (some mb) s1 a b d W (W1.setCell ⟨mb, 0, none⟩ (.slice A1 (l + 1) c1)) ∧ Boxed W1 mb t (.slice A l c) ∧ Boxed (W1.setCell ⟨mb, 0, none⟩ (.slice A1 (l + 1) c1)) mb t (.slice A1 (l + 1) c1) ∧ Mine (W1.setCell ⟨mb, 0, none⟩ (.slice A1 (l + 1) c1)) B A1 (l + 1) c1 (xs ++ [k]) := by
  have hblt := hv.lt
  obtain ⟨h1, h2, h3⟩ := h
  have hA := hrow.lt
  have hA1 := h1.lt
  have hsz := h2.size
  rw [World.size_alloc] at hsz
  have hne : ∀ g, blk A = some g → g ≠ mb := fun g e e2 => by have := (hA g e).1; omega
  have hv1 : Boxed W1 mb t (.slice A l c) := (hv.alloc _).kept h2 (fun e => hne mb e.symm rfl)
  have hg3 : W1.grownBy (W1.setCell ⟨mb, 0, none⟩ (.slice A1 (l + 1) c1)) (some mb) := grownBy_setCell' W1 mb _
  have hv2 := hv1.set (.slice A1 (l + 1) c1)
  have hm2 : Mine (W1.setCell ⟨mb, 0, none⟩ (.slice A1 (l + 1) c1)) B A1 (l + 1) c1 (xs ++ [k]) := h1.kept hg3 (fun g e e2 => by have := (hA1 g e).1; injection e2 with e2; omega)
  have hal : Below W.heap.size W (W.alloc (.cells #[.int .i64 k] 3)) := ba1 _ _
  refine ⟨StayB.of_more hv.cell hv2.cell (fun g e => Nat.le_trans hb (hA g e).1) ?_ (fun g e => by have := (hm2.lt g e).2; exact this) (fun j hj h4 h5 => ?_) ?_ hma hmb (by omega), hv1, hv2, hm2⟩
  · rcases h3 with h3 | h3
    · exact .inl h3
    · refine .inr fun g e => ?_
      rw [h3] at e
      injection e with e
      rw [World.size_alloc] at e
      omega
  · exact (hg3.block j (by omega) (fun e => h5 (by injection e))).trans ((h2.block j (by rw [World.size_alloc]; omega) (fun e => h4 e.symm)).trans (hal.block j hj))
  · exact (hal.mono (by omega)).grown h2 (by rw [World.size_alloc]; omega) (fun g e => by have := (hA g e).1; omega) |>.setCell (p := ⟨mb, 0, none⟩) hs1 _

theorem mine_mono {w : World} {B C : Nat} {A : Option Addr} {n c : Nat} {xs : List Int} (h : Mine w B A n c xs) (hC : C ≤ B) : Mine w C A n c xs := by
  obtain ⟨h1, h2⟩ := h
  refine ⟨h1, ?_⟩
  rcases h2 with h2 | ⟨g, cap, cur, e1, e2, e3⟩
  · exact .inl h2
  · exact .inr ⟨g, cap, cur, e1, Nat.le_trans hC e2, e3⟩

/-- .. and what else is kept. -/
theorem more_keeps {mb s1 B : Nat} {t : TypeId} {W W1 : World} {A A1 : Option Addr} {l c c1 : Nat} {xs : List Int} {k : Int} (hte : t ≠ 3) (hv : Boxed W mb t (.slice A l c)) (hrow : Mine W B A l c xs) (hs1 : s1 ≤ mb) (hsB : s1 ≤ B) (h : Appended (W.alloc (.cells #[.int .i64 k] 3)) B A l xs [k] 1 A1 c1 W1) :
    KeepsOthers W (W1.setCell ⟨mb, 0, none⟩ (.slice A1 (l + 1) c1)) ∧ Below s1 W (W1.setCell ⟨mb, 0, none⟩ (.slice A1 (l + 1) c1)) := by
  obtain ⟨r1, r2, r3, r4, r5, -⟩ := boxed_more hte hv (mine_mono hrow hsB) (by have := hv.lt; omega) hs1 ⟨mine_mono h.1 hsB, h.2⟩
  exact ⟨r4, r5⟩

end Go.Proofs.Ytflncnfagoekcaa.Walk

/-! The whole walk as a stack of boxes; a context's walk within the whole one. No program is in it. -/
namespace Go.Proofs.Ytflncnfagoekcaa.Walk
open Go.Proofs.Ytflncnfagoekcaa.Record Go.Proofs.Ytflncnfagoekcaa.Script Go.Proofs.Ytflncnfagoekcaa.Tree

/-- Which boxes are open, the innermost one last, and how many have been entered. -/
def stk (s : List Nat × Nat) (x : Ev) : List Nat × Nat := if x.l then (s.1.dropLast, s.2) else (s.1 ++ [x.a.toNat], s.2 + 1)

/-- The box of an event is the next one, and stands in the innermost open one; or it is that, and all that it has was entered. -/
def fits (d : Nat → Int) (n : Nat) (s : List Nat × Nat) (x : Ev) : Prop :=
  ∃ k : Nat, x.a = (k : Int) ∧ k < n ∧ (if x.l then s.1.getLast? = some k ∧ en d n k = s.2 else k = s.2 ∧ ∀ p, s.1.getLast? = some p → par d k = (p : Int))

def Covs (d : Nat → Int) (n : Nat) : List Nat × Nat → List Ev → List Nat × Nat → Prop
  | s, [], e => s = e
  | s, x :: r, e => fits d n s x ∧ Covs d n (stk s x) r e

theorem Covs.append {d : Nat → Int} {n : Nat} : ∀ {xs ys : List Ev} {s m e : List Nat × Nat}, Covs d n s xs m → Covs d n m ys e → Covs d n s (xs ++ ys) e
  | [], _, _, _, _, h, k => by cases h; exact k
  | _ :: _, _, _, _, _, h, k => ⟨h.1, Covs.append h.2 k⟩

theorem wlk_covs (d : Nat → Int) (o : Nat → Bool) (n : Nat) (hs : Shape d n) : ∀ m i tz (s : Int) (st : List Nat), n - i < m → i ≤ tz → Nested d n i tz → (∀ j, i ≤ j → j < tz → s ≤ d j) → (i < tz → d i = s) → (∀ j, i ≤ j → j < tz → d j = s → ∀ p, st.getLast? = some p → par d j = (p : Int)) → Covs d n (st, i) (wlk d o n true i tz) (st, tz)
  | 0, _, _, _, _, h, _, _, _, _, _ => by omega
  | m + 1, i, tz, s, st, hm, hle, hp, hl, h0, hq => by
    by_cases h : i < tz
    · have hn : i < n := by have := hp.1; omega
      obtain ⟨e1, e2, e3, e4⟩ := en_spec d n i hn
      have h1 := hp.2 i (Nat.le_refl _) h
      have hd := h0 h
      have hin := wlk_covs d o n hs m (i + 1) (en d n i) (s + 1) (st ++ [i]) (by omega) (by omega) (nested_in d n i hn) (fun j a b => by have := e3 j (by omega) b; omega) (fun h2 => by
        have a1 := e3 (i + 1) (by omega) h2
        have a2 := (hs.step (i + 1) (by omega) (by omega)).2
        rw [Nat.add_sub_cancel] at a2
        omega) (fun j a b hj p hpp => by
        rw [List.getLast?_append] at hpp
        simp at hpp
        subst hpp
        exact (hs.kid_iff i j hn (by omega)).1 ((mem_kids d n i j).2 ⟨b, by omega, by omega⟩))
      have hout := wlk_covs d o n hs m (en d n i) tz s st (by omega) (by omega) (hp.later (by omega)) (fun j a b => hl j (by omega) b) (fun h2 => by
        have := hp.1
        have := hl (en d n i) (by omega) h2
        rcases e4 with e4 | e4 <;> omega) (fun j a b => hq j (by omega) b)
      rw [wlk_next d o n true h hn]
      simp only [Bool.true_or, if_true]
      refine ⟨⟨i, rfl, hn, by simpa using hq i (Nat.le_refl _) h hd⟩, ?_⟩
      have q1 : stk (st, i) ⟨(i : Int), false⟩ = (st ++ [i], i + 1) := by simp [stk]
      rw [q1]
      refine Covs.append hin ⟨⟨i, rfl, hn, by simp⟩, ?_⟩
      have q2 : stk (st ++ [i], en d n i) ⟨(i : Int), true⟩ = (st, en d n i) := by simp [stk]
      rw [q2]
      exact hout
    · obtain rfl : i = tz := by omega
      rw [wlk_end d o n true (Nat.le_refl _)]
      rfl

theorem all_covs (bs : List Bx) (hs : Shape (dOf bs) bs.length) : Covs (dOf bs) bs.length ([], 0) (evAll bs) ([], bs.length) :=
  wlk_covs (dOf bs) (oOf bs) bs.length hs (bs.length + 1) 0 bs.length 0 [] (by omega) (Nat.zero_le _) (nested_all _ _ _) (fun j _ h => hs.nonneg j h) (fun _ => hs.zero) (fun j _ _ _ p h => by simp at h)

/-- The stack behind events. -/
def stkAt (s : List Nat × Nat) (pre : List Ev) : List Nat × Nat := pre.foldl stk s

theorem stkAt_next (s : List Nat × Nat) (pre : List Ev) (x : Ev) : stkAt s (pre ++ [x]) = stk (stkAt s pre) x := by
  unfold stkAt
  rw [List.foldl_append]
  rfl

theorem Covs.at {d : Nat → Int} {n : Nat} : ∀ {evs : List Ev} {s e : List Nat × Nat}, Covs d n s evs e → ∀ (k : Nat) x, evs[k]? = some x → fits d n (stkAt s (evs.take k)) x
  | [], _, _, _, _, _, hx => by simp at hx
  | y :: r, s, e, h, 0, x, hx => by
    simp only [List.getElem?_cons_zero, Option.some.injEq] at hx
    subst hx
    exact h.1
  | y :: r, s, e, h, k + 1, x, hx => by
    rw [List.getElem?_cons_succ] at hx
    have := Covs.at h.2 k x hx
    rw [List.take_succ_cons]
    exact this

theorem Covs.last {d : Nat → Int} {n : Nat} : ∀ {evs : List Ev} {s e : List Nat × Nat}, Covs d n s evs e → stkAt s evs = e
  | [], _, _, h => h
  | x :: r, s, e, h => Covs.last (evs := r) (s := stk s x) (e := e) h.2

/-! A context's walk within the whole one. -/

/-- Is the event of a box whose context is c, within c? -/
def inC (d : Nat → Int) (o : Nat → Bool) (n c : Nat) (x : Ev) : Bool := decide ((c : Int) < x.a) && decide (x.a < (en d n c : Int)) && decide (ctx d o x.a.toNat = c)

theorem inC_at (d : Nat → Int) (o : Nat → Bool) (n c i : Nat) (l : Bool) : inC d o n c ⟨(i : Int), l⟩ = (decide (c < i) && decide (i < en d n c) && decide (ctx d o i = c)) := by
  unfold inC
  simp

/-- Nothing of boxes that stand elsewhere. -/
theorem filter_none (d : Nat → Int) (o : Nat → Bool) (n c : Nat) : ∀ m i tz, n - i < m → Nested d n i tz → (∀ j, i ≤ j → j < tz → ¬ (c < j ∧ j < en d n c ∧ ctx d o j = c)) → (wlk d o n true i tz).filter (inC d o n c) = []
  | 0, _, _, h, _, _ => by omega
  | m + 1, i, tz, hm, hp, hl => by
    by_cases h : i < tz
    · have hn : i < n := by have := hp.1; omega
      obtain ⟨e1, e2, -, -⟩ := en_spec d n i hn
      have h1 := hp.2 i (Nat.le_refl _) h
      have q : ∀ l, inC d o n c ⟨(i : Int), l⟩ = false := fun l => by
        rw [inC_at]
        have := hl i (Nat.le_refl _) h
        simp only [Bool.and_eq_false_iff, decide_eq_false_iff_not]
        by_cases a : c < i
        · by_cases b : i < en d n c
          · exact .inr fun e => this ⟨a, b, e⟩
          · exact .inl (.inr b)
        · exact .inl (.inl a)
      rw [wlk_next d o n true h hn]
      simp only [Bool.true_or, if_true, List.filter_cons, q, List.filter_append, Bool.false_eq_true, if_false]
      rw [filter_none d o n c m (i + 1) (en d n i) (by omega) (nested_in d n i hn) (fun j a b => hl j (by omega) (by omega)),
        filter_none d o n c m (en d n i) tz (by omega) (hp.later (by omega)) (fun j a b => hl j (by omega) b)]
      rfl
    · rw [wlk_end d o n true (by omega)]
      rfl

end Go.Proofs.Ytflncnfagoekcaa.Walk

/-! A context's walk is the whole one without what stands elsewhere; it enters the context's members. No program is in it. -/
namespace Go.Proofs.Ytflncnfagoekcaa.Walk
open Go.Proofs.Ytflncnfagoekcaa.Record Go.Proofs.Ytflncnfagoekcaa.Script Go.Proofs.Ytflncnfagoekcaa.Tree

theorem ctx_par (d : Nat → Int) (o : Nat → Bool) {j q : Nat} (h : par d j = (q : Int)) : ctx d o j = if o q then q else ctx d o q := by
  have e : ctx d o j = ctxN d o q := by unfold ctx; rw [h, Int.toNat_natCast]
  rw [e]
  split
  · rename_i ho; exact ctxN_open d o q ho
  · rename_i ho; rw [ctxN_next d o q (by simpa using ho)]; rfl

/-- Within a box that has a context, no box has one further out. -/
theorem ctx_within {d : Nat → Int} {n : Nat} (hs : Shape d n) (o : Nat → Bool) (i : Nat) (hi : i < n) (ho : o i = true) : ∀ m j, j < m → i < j → j < en d n i → i ≤ ctx d o j
  | 0, _, h, _, _ => by omega
  | m + 1, j, hm, h1, h2 => by
    obtain ⟨e1, e2, e3, -⟩ := en_spec d n i hi
    obtain ⟨q, q1, q2, q3, q4⟩ := hs.parent j (by omega) (by omega)
    have a := e3 j h1 h2
    have hq : i ≤ q := by
      rcases Nat.lt_or_ge q i with h | h
      · have := q4 i h h1; omega
      · exact h
    rw [ctx_par d o q1]
    split
    · exact hq
    · rename_i hoq
      rcases Nat.lt_or_ge i q with h | h
      · exact ctx_within hs o i hi ho m q (by omega) h (by omega)
      · obtain rfl : q = i := by omega
        rw [ho] at hoq
        exact (hoq rfl).elim

/-- The boxes that stand in a box of a context, or in what has the context. -/
theorem ctx_kid {d : Nat → Int} {n : Nat} (hs : Shape d n) (o : Nat → Bool) (i j : Nat) (hi : i < n) (h1 : i < j) (h2 : j < en d n i) (hd : d j = d i + 1) : ctx d o j = if o i then i else ctx d o i := by
  have := (en_spec d n i hi).2.1
  exact ctx_par d o ((hs.kid_iff i j hi (by omega)).1 ((mem_kids d n i j).2 ⟨h2, h1, hd⟩))

theorem kids_low {d : Nat → Int} {n : Nat} (hs : Shape d n) (i : Nat) (hi : i < n) (s : Int) (hd : d i = s) : (∀ j, i + 1 ≤ j → j < en d n i → s + 1 ≤ d j) ∧ (i + 1 < en d n i → d (i + 1) = s + 1) := by
  obtain ⟨e1, e2, e3, -⟩ := en_spec d n i hi
  refine ⟨fun j a b => by have := e3 j (by omega) b; omega, fun h2 => ?_⟩
  have a1 := e3 (i + 1) (by omega) h2
  have a2 := (hs.step (i + 1) (by omega) (by omega)).2
  rw [Nat.add_sub_cancel] at a2
  omega

theorem next_low {d : Nat → Int} {n i tz : Nat} {s : Int} (hp : Nested d n i tz) (h : i < tz) (hl : ∀ j, i ≤ j → j < tz → s ≤ d j) (hd : d i = s) : en d n i < tz → d (en d n i) = s := by
  intro h2
  have := hp.1
  obtain ⟨e1, e2, e3, e4⟩ := en_spec d n i (by omega)
  have := hl (en d n i) (by omega) h2
  rcases e4 with e4 | e4 <;> omega

theorem filter_in {d : Nat → Int} {n : Nat} (hs : Shape d n) (o : Nat → Bool) (c : Nat) : ∀ m i tz (s : Int), n - i < m → Nested d n i tz → c < i → tz ≤ en d n c → (∀ j, i ≤ j → j < tz → s ≤ d j) → (i < tz → d i = s) → (∀ j, i ≤ j → j < tz → d j = s → ctx d o j = c) → (wlk d o n true i tz).filter (inC d o n c) = wlk d o n false i tz
  | 0, _, _, _, h, _, _, _, _, _, _ => by omega
  | m + 1, i, tz, s, hm, hp, hc, ht, hl, h0, hq => by
    by_cases h : i < tz
    · have hn : i < n := by have := hp.1; omega
      obtain ⟨e1, e2, -, -⟩ := en_spec d n i hn
      have h1 := hp.2 i (Nat.le_refl _) h
      have hd := h0 h
      have hci := hq i (Nat.le_refl _) h hd
      have q : ∀ l, inC d o n c ⟨(i : Int), l⟩ = true := fun l => by
        rw [inC_at]
        simp only [Bool.and_eq_true, decide_eq_true_eq]
        exact ⟨⟨hc, by omega⟩, hci⟩
      have hout := filter_in hs o c m (en d n i) tz s (by omega) (hp.later (by omega)) (by omega) ht (fun j a b => hl j (by omega) b) (next_low hp h hl hd) (fun j a b => hq j (by omega) b)
      have hin : (wlk d o n true (i + 1) (en d n i)).filter (inC d o n c) = if o i then [] else wlk d o n false (i + 1) (en d n i) := by
        split
        · rename_i ho
          refine filter_none d o n c m (i + 1) (en d n i) (by omega) (nested_in d n i hn) (fun j a b => ?_)
          rintro ⟨-, -, e⟩
          have := ctx_within hs o i hn ho (j + 1) j (by omega) (by omega) b
          omega
        · rename_i ho
          obtain ⟨k1, k2⟩ := kids_low hs i hn s hd
          refine filter_in hs o c m (i + 1) (en d n i) (s + 1) (by omega) (nested_in d n i hn) (by omega) (by omega) k1 k2 (fun j a b e => ?_)
          rw [ctx_kid hs o i j hn (by omega) b (by omega), if_neg ho, hci]
      rw [wlk_next d o n true h hn, wlk_next d o n false h hn]
      simp only [Bool.true_or, if_true, List.filter_cons, q, List.filter_append, Bool.false_or, hin, hout]
      cases o i <;> simp
    · rw [wlk_end d o n true (by omega), wlk_end d o n false (by omega)]
      rfl

theorem filter_down {d : Nat → Int} {n : Nat} (hs : Shape d n) (o : Nat → Bool) (c : Nat) (hcn : c < n) (ho : o c = true) : ∀ m i tz, n - i < m → Nested d n i tz → i ≤ c → c < tz → (wlk d o n true i tz).filter (inC d o n c) = wlk d o n false (c + 1) (en d n c)
  | 0, _, _, h, _, _, _ => by omega
  | m + 1, i, tz, hm, hp, hi, ht => by
    have h : i < tz := by omega
    have hn : i < n := by omega
    obtain ⟨e1, e2, -, -⟩ := en_spec d n i hn
    have h1 := hp.2 i (Nat.le_refl _) h
    have q : ∀ l, inC d o n c ⟨(i : Int), l⟩ = false := fun l => by
      rw [inC_at]
      have : ¬ c < i := by omega
      simp [this]
    rw [wlk_next d o n true h hn]
    simp only [Bool.true_or, if_true, List.filter_cons, q, List.filter_append, Bool.false_eq_true, if_false]
    by_cases e : i = c
    · subst e
      obtain ⟨k1, k2⟩ := kids_low hs i hn (d i) rfl
      rw [filter_in hs o i m (i + 1) (en d n i) (d i + 1) (by omega) (nested_in d n i hn) (by omega) (Nat.le_refl _) k1 k2 (fun j a b x => by rw [ctx_kid hs o i j hn (by omega) b (by omega), if_pos ho]),
        filter_none d o n i m (en d n i) tz (by omega) (hp.later (by omega)) (fun j a b => by rintro ⟨-, x, -⟩; omega), List.append_nil]
    · by_cases e3 : c < en d n i
      · have := en_nest d n i c hn (by omega) e3
        rw [filter_down hs o c hcn ho m (i + 1) (en d n i) (by omega) (nested_in d n i hn) (by omega) e3,
          filter_none d o n c m (en d n i) tz (by omega) (hp.later (by omega)) (fun j a b => by rintro ⟨-, x, -⟩; omega), List.append_nil]
      · rw [filter_none d o n c m (i + 1) (en d n i) (by omega) (nested_in d n i hn) (fun j a b => by rintro ⟨x, -, -⟩; omega),
          filter_down hs o c hcn ho m (en d n i) tz (by omega) (hp.later (by omega)) (by omega) ht]
        rfl

theorem evCtx_filter (bs : List Bx) (hs : Shape (dOf bs) bs.length) (c : Nat) (hc : c < bs.length) (ho : oOf bs c = true) : (evAll bs).filter (inC (dOf bs) (oOf bs) bs.length c) = evCtx bs (c : Int) := by
  rw [evCtx_yes hc ho]
  exact filter_down hs (oOf bs) c hc ho (bs.length + 1) 0 bs.length (by omega) (nested_all _ _ _) (Nat.zero_le _) hc

/-! How many. -/

theorem memTo_same (bs : List Bx) (c a : Nat) : ∀ f, (∀ j, a ≤ j → j < a + f → ctx (dOf bs) (oOf bs) j ≠ c) → memTo bs c (a + f) = memTo bs c a
  | 0, _ => rfl
  | f + 1, h => by
    rw [← Nat.add_assoc, memTo_next, if_neg (fun x => h (a + f) (by omega) (by omega) x.2), List.append_nil]
    exact memTo_same bs c a f (fun j x y => h j x (by omega))

theorem wlk_members (bs : List Bx) {n : Nat} (hs : Shape (dOf bs) n) (c : Nat) : ∀ m i tz (s : Int), n - i < m → i ≤ tz → Nested (dOf bs) n i tz → c < i → (∀ j, i ≤ j → j < tz → s ≤ dOf bs j) → (i < tz → dOf bs i = s) → (∀ j, i ≤ j → j < tz → dOf bs j = s → ctx (dOf bs) (oOf bs) j = c) → 2 * (memTo bs c tz).length = 2 * (memTo bs c i).length + (wlk (dOf bs) (oOf bs) n false i tz).length
  | 0, _, _, _, h, _, _, _, _, _, _ => by omega
  | m + 1, i, tz, s, hm, hle, hp, hc, hl, h0, hq => by
    by_cases h : i < tz
    · have hn : i < n := by have := hp.1; omega
      obtain ⟨e1, e2, -, -⟩ := en_spec (dOf bs) n i hn
      have h1 := hp.2 i (Nat.le_refl _) h
      have hd := h0 h
      have hci := hq i (Nat.le_refl _) h hd
      have hout := wlk_members bs hs c m (en (dOf bs) n i) tz s (by omega) (by omega) (hp.later (by omega)) (by omega) (fun j a b => hl j (by omega) b) (next_low hp h hl hd) (fun j a b => hq j (by omega) b)
      have h2 : (memTo bs c (i + 1)).length = (memTo bs c i).length + 1 := by
        rw [memTo_next, if_pos ⟨hc, hci⟩, List.length_append]
        rfl
      have hin : 2 * (memTo bs c (en (dOf bs) n i)).length = 2 * (memTo bs c (i + 1)).length + (if oOf bs i then [] else wlk (dOf bs) (oOf bs) n false (i + 1) (en (dOf bs) n i)).length := by
        split
        · rename_i ho
          obtain ⟨f, hf⟩ : ∃ f, en (dOf bs) n i = i + 1 + f := ⟨en (dOf bs) n i - (i + 1), by omega⟩
          rw [hf, memTo_same bs c (i + 1) f (fun j a b x => by
            have := ctx_within hs (oOf bs) i hn ho (j + 1) j (by omega) (by omega) (by omega)
            omega)]
          rfl
        · rename_i ho
          obtain ⟨k1, k2⟩ := kids_low hs i hn s hd
          refine wlk_members bs hs c m (i + 1) (en (dOf bs) n i) (s + 1) (by omega) (by omega) (nested_in (dOf bs) n i hn) (by omega) k1 k2 (fun j a b e => ?_)
          rw [ctx_kid hs (oOf bs) i j hn (by omega) b (by omega), if_neg ho, hci]
      rw [wlk_next (dOf bs) (oOf bs) n false h hn]
      simp only [Bool.false_or, List.length_cons, List.length_append]
      cases hoi : oOf bs i <;> simp [hoi] at hin ⊢ <;> omega
    · obtain rfl : i = tz := by omega
      rw [wlk_end (dOf bs) (oOf bs) n false (Nat.le_refl _)]
      rfl

theorem evCtx_members (bs : List Bx) (hs : Shape (dOf bs) bs.length) (c : Nat) (hc : c < bs.length) (ho : oOf bs c = true) : (evCtx bs (c : Int)).length = 2 * (memT bs (c : Int)).length := by
  rw [evCtx_yes hc ho, memT_yes hc ho, List.length_map]
  obtain ⟨e1, e2, -, -⟩ := en_spec (dOf bs) bs.length c hc
  obtain ⟨k1, k2⟩ := kids_low hs c hc (dOf bs c) rfl
  have := wlk_members bs hs c (bs.length + 1) (c + 1) (en (dOf bs) bs.length c) (dOf bs c + 1) (by omega) (by omega) (nested_in _ _ c hc) (by omega) k1 k2 (fun j a b x => by rw [ctx_kid hs (oOf bs) c j hc (by omega) b (by omega), if_pos ho])
  rw [memTo_start] at this
  simp only [List.length_nil, Nat.mul_zero, Nat.zero_add] at this
  exact this.symm

end Go.Proofs.Ytflncnfagoekcaa.Walk

/-! slices.Reverse over numbers of one's own, by the library's contract. -/
namespace Go.Proofs.Ytflncnfagoekcaa.Walk
open Go.RowKit Go.Sort

theorem add_is (g j : Nat) : (⟨g, 0, none⟩ : Addr).add j = ⟨g, 0 + j, none⟩ := by unfold Addr.add; split <;> simp_all

/-- The numbers of the library's own names in this program. -/
def revRen : Go.Shelf.Ren := ⟨fun _ => 40, fun t => if t = 0 then 0 else if t = 3 then 3 else if t = 4 then 4 else 38, fun g => g⟩

theorem revLays : Go.Proofs.Lays.n112 Try.prog revRen where
  mixed := by kernel_rfl
  f112 := by kernel_rfl
  t0 := by kernel_rfl
  a0 := fun w => by kernel_rfl
  z0 := fun w => by kernel_rfl
  v0 := fun w => by kernel_rfl
  t3 := by kernel_rfl
  a3 := fun w => by kernel_rfl
  z3 := fun w => by kernel_rfl
  v3 := fun w => by kernel_rfl
  t4 := by kernel_rfl
  a4 := fun w => by kernel_rfl
  z4 := fun w => by kernel_rfl
  v4 := fun w => by kernel_rfl
  t28 := by kernel_rfl
  a28 := fun w => by kernel_rfl
  z28 := fun w => by kernel_rfl
  v28 := fun w => by kernel_rfl

theorem nums_rev {w : World} {B g n c : Nat} {xs : List Int} (h : Mine w B (some ⟨g, 0, none⟩) n c xs) (m : Nat) : Nums (putRow (Value.int .i64) (Sort.ahead w m) g 0 xs.reverse.toArray) (putRow (Value.int .i64) (Sort.ahead w m) g 0 xs.reverse.toArray).heap.size (some ⟨g, 0, none⟩) xs.reverse ∧ Below B w (putRow (Value.int .i64) (Sort.ahead w m) g 0 xs.reverse.toArray) := by
  have hl := h.len
  have hg := h.lt g rfl
  have hH : Holds (Value.int .i64) (Sort.ahead w m) g 0 xs.toArray := fun j hj => by
    obtain ⟨g', e, -, -, hc⟩ := h.cell j (by simpa using hj)
    injection e with e
    injection e with e _ _
    subst e
    have hj' : j < xs.length := by simpa using hj
    refine ⟨?_, ?_⟩
    · refine Eq.trans (b := w.cell? ⟨g, 0 + j, none⟩) rfl ?_
      rw [← add_is]
      refine hc.trans ?_
      simp [List.getD, hj']
    · exact World.ownsRow.frozenAt h (0 + j)
  have hP := holds_putRow (Value.int .i64) (Sort.ahead w m) g 0 xs.toArray xs.reverse.toArray hH (by simp)
  have hsz : (putRow (Value.int .i64) (Sort.ahead w m) g 0 xs.reverse.toArray).heap.size = w.heap.size := by
    unfold putRow mapBlock Sort.ahead; simp
  refine ⟨fun k hk => ⟨_, rfl, ?_, ?_⟩, ⟨rfl, rfl, rfl, Nat.le_of_eq hsz.symm, fun k hk => ?_⟩⟩
  · rw [hsz]; exact hg.2
  · rw [add_is]
    refine (hP k (by simpa using hk)).1.trans ?_
    simp at hk
    simp [List.getD, hk]
  · unfold putRow mapBlock Sort.ahead
    simp only [Array.getElem?_modify]
    rw [if_neg (by omega)]

/-- What is answered: new numbers, the other way round. -/
theorem reverse_mine (w : World) (B : Nat) (A : Option Addr) (n c : Nat) (xs : List Int) (h : Mine w B A n c xs) (hm : n ≤ 1000000) :
    Calls Try.prog 40 #[.slice A n c] w fun e w' => (∃ v, e = .returned v) ∧ Nums w' w'.heap.size A xs.reverse ∧ Below B w w' := by
  have hl := h.len
  rcases Nat.eq_zero_or_pos n with h0 | h0
  · subst h0
    obtain rfl := List.eq_nil_of_length_eq_zero hl
    refine (Go.Proofs.Any.slices_Reverse_int_empty revLays A c w).mono ?_
    rintro e w' ⟨rfl, rfl⟩
    exact ⟨⟨_, rfl⟩, nums0 _ _ _, Below.refl _ _⟩
  · obtain ⟨g, rfl, -, -, -⟩ := h.cell 0 (by omega)
    have hr := Go.Proofs.Any.slices_Reverse_int revLays g 0 c xs w (fun j hj => by
      obtain ⟨g', e, -, -, hc⟩ := h.cell j (by simpa using hj)
      injection e with e
      injection e with e _ _
      subst e
      have hj' : j < xs.length := by simpa using hj
      rw [add_is] at hc
      refine ⟨hc.trans ?_, World.ownsRow.frozenAt h (0 + j)⟩
      simp [List.getD, hj']) (by omega)
    rw [hl] at hr
    refine hr.mono ?_
    rintro e w' ⟨rfl, m, rfl⟩
    exact ⟨⟨_, rfl⟩, nums_rev h m⟩

end Go.Proofs.Ytflncnfagoekcaa.Walk

/-! The program's Path. -/
namespace Go.Proofs.Ytflncnfagoekcaa.Walk
open Go.RowKit Go.Sort Go.Proofs.Ytflncnfagoekcaa.Record Go.Proofs.Ytflncnfagoekcaa.Script Go.Proofs.Ytflncnfagoekcaa.Tree Go.Proofs.Ytflncnfagoekcaa.More

/-- From a box outwards, itself at the end; none from -1. -/
def upT (bs : List Bx) (q : Int) : List Int := if 0 ≤ q then (pathD (dOf bs) q.toNat ++ [q.toNat]).map Int.ofNat else []

theorem pathT_up (bs : List Bx) (i : Int) : pathT bs i = upT bs (parT bs i) := by
  unfold pathT upT parT
  by_cases h : hasT bs i
  · simp only [if_pos h]
    conv => lhs; rw [pathD]
    split <;> rfl
  · simp only [if_neg h]
    rfl

theorem upT_next (bs : List Bx) (q : Int) (h0 : 0 ≤ q) (h1 : q < bs.length) : upT bs q = upT bs (parT bs q) ++ [q] := by
  rw [← pathT_up]
  unfold upT pathT
  rw [if_pos h0, if_pos ⟨h0, h1⟩, List.map_append]
  congr 1
  simp only [List.map_cons, List.map_nil, List.cons.injEq, and_true]
  exact Int.toNat_of_nonneg h0

theorem parT_bounds (bs : List Bx) (q : Int) : -1 ≤ parT bs q ∧ parT bs q < bs.length ∧ (0 ≤ q → parT bs q < q) := by
  unfold parT
  split
  · rename_i h
    have := par_bounds (dOf bs) q.toNat
    have := h.1; have := h.2
    omega
  · omega

theorem pathD_le (d : Nat → Int) : ∀ m i, i < m → (pathD d i).length ≤ i
  | 0, _, h => by omega
  | m + 1, i, h => by
    have hb := par_bounds d i
    rw [pathD]
    split
    · rename_i h0
      have := pathD_le d m (par d i).toNat (by omega)
      simp only [List.length_append, List.length_cons, List.length_nil]
      omega
    · simp

theorem pathT_le (bs : List Bx) (i : Int) : (pathT bs i).length ≤ bs.length := by
  unfold pathT
  split
  · rename_i h
    rw [List.length_map]
    have := pathD_le (dOf bs) (i.toNat + 1) i.toNat (by omega)
    have := h.1; have := h.2
    omega
  · simp

section
variable {T : World → Addr → List Bx → Prop}

set_option maxRecDepth 100000 in
set_option maxHeartbeats 2000000 in
theorem path_any (hT : TreeOk T) (w : World) (p : Addr) (bs : List Bx) (i : Int) (ht : T w p bs) (hlen : bs.length ≤ 1000) :
    Calls Try.prog 23 #[.pointer (some p), .int .i64 i] w fun r w' => ∃ u, r = .returned u ∧ GivesN w.heap.size (pathT bs i) w' u ∧ Below w.heap.size w w' := by
  have HPar := Lib.hid (fun W1 (k : Below w.heap.size w W1) (q v : Int) (hv : parT bs q = v) => by have := hT.parent W1 p bs q (hT.keep _ _ _ _ ht k); rw [hv] at this; exact this)
  obtain ⟨q0, hq0⟩ : ∃ q0, parT bs i = q0 := ⟨_, rfl⟩
  have hP := pathT_up bs i
  rw [hq0] at hP
  have hb0 := parT_bounds bs i
  rw [hq0] at hb0
  have HLE := Lib.hid (pathT_le bs i)
  have HQ := Lib.hid hq0
  have HP := Lib.hid hP
  have HB0 := Lib.hid hb0
  clear ht hq0 hP hb0
  go_enter Try.func23, Try.ntmps23
  go_wp2_with (first
    | (go_at_call 21; refine (HPar.out _ (Below.refl _ _) _ _ HQ.out).mono ?_; rintro e w1 ⟨rfl, k1⟩))
  have K1 := Lib.hid k1
  clear k1
  go_loopw [5, 6] (fun s t wr => ∃ q : Int, ∃ A : Option Addr, ∃ l c : Nat, ∃ xs : List Int, -1 ≤ q ∧ q < bs.length ∧ t = .int .i64 q ∧ s = .slice A l c ∧ Hid (upT bs q ++ xs.reverse = pathT bs i ∧ Mine wr w.heap.size A l c xs ∧ Below w.heap.size w wr)) (fun _ t _ => (intOf t + 1).toNat)
  case atStart => exact ⟨q0, none, 0, 0, [], HB0.out.1, HB0.out.2.1, rfl, rfl, Lib.hid ⟨by rw [HP.out]; simp, World.ownsRow_nil _ _ _ _, K1.out⟩⟩
  case round =>
    obtain ⟨q, A, l, c, xs, h1, h2, rfl, rfl, hst⟩ := hrel
    have hl := hst.out.2.1.len
    have hlx := congrArg List.length hst.out.1
    simp only [List.length_append, List.length_reverse] at hlx
    have hl2 : l ≤ 1000 := by have := HLE.out; omega
    rcases Int.lt_or_le q 0 with h | h
    · obtain rfl : q = -1 := by omega
      have hR := reverse_mine wr w.heap.size A l c xs hst.out.2.1 (by omega)
      have HR := Lib.hid hR
      clear hR hlx hl
      go_wp2_with (first
        | (go_at_call 40; refine HR.out.mono ?_; rintro e w2 ⟨⟨v, rfl⟩, n2, k2⟩; have N2 := Lib.hid n2; have K2 := Lib.hid k2; clear n2 k2))
      go_ret
      have hx : xs.reverse = pathT bs i := by have := hst.out.1; simpa [upT] using this
      rw [hx] at N2
      refine ⟨.slice A l c, rfl, ⟨A, c, by rw [← hx, List.length_reverse, hst.out.2.1.len], N2.out, fun _ ad e => ?_⟩, hst.out.2.2.trans K2.out⟩
      have := hst.out.2.1.lt ad.block (by rw [e]; rfl)
      omega
    · obtain ⟨q1, hq1⟩ : ∃ q1, parT bs q = q1 := ⟨_, rfl⟩
      have hb1 := parT_bounds bs q
      have hu := upT_next bs q h h2
      rw [hq1] at hb1 hu
      have HU := Lib.hid hu
      have HQ1 := Lib.hid hq1
      have hsz := hst.out.2.2.size
      clear hu hq1 hlx hl
      go_wp2_with (first
        | (at_builtin; refine wpList_append_mine _ rfl (.tmp 15) (.tmp 17) rfl w.heap.size A l c xs rfl (hst.out.2.1.alloc _) (some ⟨wr.heap.size, 0, none⟩) 1 1 [q] rfl (one_src wr q) (by omega) (by simp; omega) ?_; intro A1 c1 W1 h1; have hb1' := h1.below (hst.out.2.1.alloc _) (hst.out.2.2.alloc hst.out.2.2.size _) (Nat.le_refl _) (by simp; omega); have HM5 := Lib.hid h1.1; have K5 := Lib.hid hb1'; clear h1 hb1')
        | (go_at_call 21; refine (HPar.out _ K5.out _ _ HQ1.out).mono ?_; rintro e w6 ⟨rfl, k6⟩; have K6 := Lib.hid k6; clear k6))
      go_roundw
      case rel => exact ⟨q1, A1, l + 1, c1, xs ++ [q], by omega, by omega, rfl, rfl, Lib.hid ⟨by rw [← hst.out.1, HU.out]; simp, HM5.out.below K6.out, thru K5.out K6.out⟩⟩
      case measure => simp only [intOf]; omega
end

end Go.Proofs.Ytflncnfagoekcaa.Walk

/-! The law of Told once more, for a region whose first operation only looks at a slot, and may come up as late as it likes: it is taken first. -/
namespace Go.Proofs.Ytflncnfagoekcaa.More
open Go.RowKit Go.Sort Go.Proofs.Ytflncnfagoekcaa.Told

def sink1 (md : Region.Mode) (ops : Array Oper) (n : Nat) : Bool :=
  (List.range n).all fun i => decide (i = 0) || (List.range (n + 1)).any fun j => decide (i < j) && Region.waitsFor md ops j i

/-- While one of the head but the first has not come up, nothing of the tail may. -/
theorem tail_waits1 {ops : Array Oper} {md : Region.Mode} {n : Nat} {listed : Array Bool} (hs : sink1 md ops n = true) (hc : Region.chainB md ops n = true) (hn : n < ops.size) (inv : HeadInv md ops n listed) :
    ∀ (d i : Nat), n - i = d → i < n → i ≠ 0 → listed.getD i true = false → ∀ t, n ≤ t → t ∉ Region.ready md ops listed := by
  -- who waits for one that has not come up is neither ready nor has it come up
  have late : ∀ j i, Region.waitsFor md ops j i = true → listed.getD i true = false → j ∉ Region.ready md ops listed ∧ listed.getD j false = false := by
    intro j i hw hi
    obtain ⟨oj, hj, e, he, hb, rfl⟩ := Region.waitsFor_spec hw
    have hi' := getD_both hi
    refine ⟨fun hr => ?_, ?_⟩
    · obtain ⟨-, o, ho, hall⟩ := mem_ready.1 hr
      obtain rfl : oj = o := Option.some.inj (hj.symm.trans ho)
      exact absurd (hall e he hb) (by simp [hi'])
    · cases hl : listed.getD j false with
      | false => rfl
      | true => exact absurd (inv.closed j oj hj hl e he hb) (by simp [hi'])
  intro d
  induction d using Nat.strongRecOn with
  | _ d ih =>
    intro i hd hi h0 hun t ht hr
    have htl : t < ops.size := by
      obtain ⟨-, o, ho, -⟩ := mem_ready.1 hr
      exact (Array.getElem?_eq_some_iff.1 ho).1
    rcases Nat.lt_or_ge n t with hnt | hnt
    · have h1 := List.all_eq_true.1 hc t (List.mem_range.2 htl)
      simp only [Bool.or_eq_true, decide_eq_true_eq] at h1
      exact (late t (t - 1) (h1.resolve_left (by omega)) (inv.tail (t - 1) (by omega) (by omega))).1 hr
    · obtain rfl : t = n := by omega
      have h1 := List.all_eq_true.1 hs i (List.mem_range.2 hi)
      simp only [Bool.or_eq_true, decide_eq_true_eq, List.any_eq_true, Bool.and_eq_true, List.mem_range] at h1
      obtain ⟨j, hj, hij, hw⟩ := h1.resolve_left h0
      obtain ⟨k1, k2⟩ := late j i hw hun
      rcases Nat.lt_or_ge j t with hjt | hjt
      · exact ih (t - j) (by omega) j rfl hjt (by omega) (getD_in (by rw [inv.size]; omega) k2) t (Nat.le_refl _) hr
      · obtain rfl : j = t := by omega
        exact k1 hr

theorem getD_set_true {listed : Array Bool} (h : listed.getD 0 false = true) (j : Nat) : (listed.setIfInBounds j true).getD 0 false = true := by
  by_cases e : j = 0
  · subst e
    have : 0 < listed.size := by
      rcases Nat.eq_zero_or_pos listed.size with h0 | h0
      · rw [Array.getD_eq_getD_getElem?, Array.getElem?_eq_none (by omega)] at h; cases h
      · exact h0
    simp [this]
  · rw [getD_set_ne false e]; exact h

section
variable {P : Program} {l : List Oper} {a0 : Act} {W : World}

/-- A region that draws its order: the operations of its head leave what is listed; new blocks are apart; then its tail, one by one. -/
theorem wp_region_told_first {id : Nat} {Q : Exit → Act → World → Prop} (ys : List Leave) (hm : P.follows .mixedOrders = true)
    (hB : (Region.noSelect l.toArray && decide (ys.length < l.toArray.size) && sink1 .any l.toArray ys.length && Region.chainB .any l.toArray ys.length &&
      Region.seqB .any l.toArray (l.toArray.size - ys.length) ys.length ((List.replicate ys.length true ++ List.replicate (l.toArray.size - ys.length) false).toArray) && headB l ys.length a0.tmps.size) = true)
    (hgd : guardsB l ys ys = true) {o0 : Oper} {v0 : Value} (h0o : l[0]? = some o0) (h0y : ys[0]? = some (.val v0))
    (h0f : Region.free .any l.toArray (Array.replicate l.toArray.size false) 0 = true) (h0r : (Region.ready .any l.toArray (Array.replicate l.toArray.size false)).contains 0 = true) (h0Y : Yields P l.toArray o0 v0 a0)
    (h0Q : ∀ c a w, Q (.panic c) (a.put o0.dst v0) w → Q (.panic c) a w)
    (hall : allLeave P (fun g => fill g 0 l ys a0) ys W l ys)
    (hend : ∀ (g : Nat → Nat) (w' : World), Below W.heap.size W w' → (∀ i y b, ys[i]? = some y → y.obj = some b → W.heap.size ≤ g i ∧ w'.heap[g i]? = some b) →
      (∀ i j y z b c, i ≠ j → ys[i]? = some y → ys[j]? = some z → y.obj = some b → z.obj = some c → g i ≠ g j) → wpList P l.toArray Q (l.drop ys.length) (fill g 0 l ys a0) w') :
    (Code.region id l.toArray true).wp P Q a0 W := by
  simp only [Bool.and_eq_true, decide_eq_true_eq] at hB
  obtain ⟨⟨⟨⟨⟨hsel, hn⟩, hs⟩, hc⟩, hseq⟩, hhead⟩ := hB
  have ok := headOk hhead
  have hn' : ys.length < l.length := by simpa using hn
  have hdl : (l.drop ys.length).length = l.toArray.size - ys.length := by simp
  refine wp_region_any hm ?_
  have key : ∀ (f : Nat) (listed : Array Bool) (a : Act) (w : World) (g : Nat → Nat), HeadInv .any l.toArray ys.length listed → unlisted listed = f + (l.toArray.size - ys.length) → Telling l ys a0 W g listed a w → listed.getD 0 false = true →
      wpAny P .any l.toArray Q (f + (l.toArray.size - ys.length)) listed a w := by
    intro f
    induction f with
    | zero =>
      intro listed a w g inv hu hb hz0
      have hls : listed.size = l.length := by have := inv.size; simpa using this
      -- all of the head has come up
      have hcount : listed.toList.countP (fun b => !b) = l.length - ys.length := by
        unfold unlisted at hu; simpa using hu
      have htail : listed.toList.drop ys.length = List.replicate (l.length - ys.length) false := by
        refine List.ext_getElem (by simp [hls]) fun k h1 h2 => ?_
        have hk : ys.length + k < listed.size := by simp at h1; omega
        have := inv.tail (ys.length + k) (by omega) (by rw [← inv.size]; exact hk)
        simpa [hk] using this
      have hsplit : listed.toList = listed.toList.take ys.length ++ List.replicate (l.length - ys.length) false := by rw [← htail, List.take_append_drop]
      have hh : (listed.toList.take ys.length).countP (fun b => !b) = 0 := by
        rw [hsplit, List.countP_append] at hcount
        have hr : (List.replicate (l.length - ys.length) false).countP (fun b => !b) = l.length - ys.length := by rw [List.countP_replicate]; simp
        rw [hr] at hcount
        omega
      have hhead : listed.toList.take ys.length = List.replicate ys.length true := by
        have hlen : (listed.toList.take ys.length).length = ys.length := by simp [hls]; omega
        rw [List.eq_replicate_iff]
        refine ⟨hlen, fun b hb => ?_⟩
        have := List.countP_eq_zero.1 hh b hb
        simpa using this
      have hlisted : listed = (List.replicate ys.length true ++ List.replicate (l.toArray.size - ys.length) false).toArray := by
        have h1 : listed = listed.toList.toArray := by simp
        rw [h1, hsplit, hhead]
        simp
      have hall' : ∀ i, i < ys.length → listed.getD i false = true := by
        intro i hi
        rw [hlisted, Array.getD_eq_getD_getElem?, List.getElem?_toArray, List.getElem?_append_left (by simpa using hi)]
        simp [hi]
      have hfull := hb.full ok hall'
      have := wpAny_of_seq (P := P) (ops := l.toArray) (md := .any) (Q' := Q) (l.drop ys.length) ys.length listed a w (fun j => by simp [List.getElem?_drop]) (by rw [hdl, hlisted]; exact hseq) (by
        rw [hfull]
        exact hend g w hb.below (fun i y b hi hy => hb.boxes i y b hi hy (hall' i (List.getElem?_eq_some_iff.1 hi).1)) (fun i j y z b c hij hi hj hy hz => hb.apart i j y z b c hij hi hj hy hz (hall' i (List.getElem?_eq_some_iff.1 hi).1) (hall' j (List.getElem?_eq_some_iff.1 hj).1)))
      rwa [hdl, ← Nat.zero_add (l.toArray.size - ys.length)] at this
    | succ f ih =>
      intro listed a w g inv hu hb hz0
      -- the first one of the head that has not come up
      have hex : ∃ i, i < ys.length ∧ listed.getD i false = false := by
        refine Classical.byContradiction fun hno => ?_
        have hno' : ∀ i, i < ys.length → listed.getD i false = true := fun i hi => by
          cases h : listed.getD i false with
          | true => rfl
          | false => exact absurd ⟨i, hi, h⟩ hno
        have hls : listed.size = l.length := by have := inv.size; simpa using this
        have h0 : (listed.toList.take ys.length).countP (fun b => !b) = 0 := by
          rw [List.countP_eq_zero]
          intro b hb'
          obtain ⟨k, hk, rfl⟩ := List.getElem_of_mem hb'
          have hk1 : k < ys.length := by simp at hk; omega
          have hk2 : k < listed.size := by omega
          have := hno' k hk1
          simpa [hk2] using this
        have h1 := List.countP_le_length (p := fun b => !b) (l := listed.toList.drop ys.length)
        have h2 : unlisted listed = (listed.toList.take ys.length).countP (fun b => !b) + (listed.toList.drop ys.length).countP (fun b => !b) := by
          unfold unlisted; rw [← List.countP_append, List.take_append_drop]
        simp only [List.length_drop, Array.length_toList, hls] at h1
        have h3 : l.toArray.size = l.length := by simp
        omega
      have hleast : ∀ m : Nat, (∃ i, i < m ∧ i < ys.length ∧ listed.getD i false = false) → ∃ i, i < ys.length ∧ listed.getD i false = false ∧ ∀ j, j < i → listed.getD j false = true := by
        intro m
        induction m with
        | zero => rintro ⟨i, hi, _⟩; omega
        | succ m ih2 =>
          rintro ⟨i, hi, hiy, hil⟩
          by_cases hsm : ∃ j, j < m ∧ j < ys.length ∧ listed.getD j false = false
          · exact ih2 hsm
          · refine ⟨i, hiy, hil, fun j hj => ?_⟩
            cases h : listed.getD j false with
            | true => rfl
            | false => exact absurd ⟨j, by omega, by omega, h⟩ hsm
      obtain ⟨i, hi, hil, hlt⟩ := hleast ys.length (by obtain ⟨i, h1, h2⟩ := hex; exact ⟨i, h1, h1, h2⟩)
      have hsize : ∀ k, k < ys.length → k < listed.size := fun k hk => by rw [inv.size]; omega
      have hready : i ∈ Region.ready .any l.toArray listed := by
        obtain ⟨o, ho⟩ := ok.there i hi
        exact mem_ready.2 ⟨getD_in (hsize i hi) hil, o, by simpa using ho, fun e he hbd => hlt _ (ok.back i o hi ho e he hbd)⟩
      rw [show f + 1 + (l.toArray.size - ys.length) = (f + (l.toArray.size - ys.length)) + 1 by omega]
      refine ⟨fun h0 => (by rw [h0] at hready; cases hready), fun j hj => ?_⟩
      have hjn : j < ys.length := by
        rcases Nat.lt_or_ge j ys.length with h | h
        · exact h
        · exact absurd hj (tail_waits1 hs hc hn inv _ i rfl hi (fun e => by rw [e, hz0] at hil; cases hil) (getD_in (hsize i hi) hil) j h)
      refine wpOp_mono (fun a' w' ⟨g', hb'⟩ => ih _ a' w' g' (inv.set hj hjn) ?_ hb' (getD_set_true hz0 j)) (hb.step ok hsel hgd hall inv.size hjn hj)
      have := unlisted_set (mem_ready.1 hj).1
      omega
  have inv0 : HeadInv .any l.toArray ys.length (Array.replicate l.toArray.size false) :=
    ⟨by simp, fun j oj _ hl => (by rw [getD_replicate_false] at hl; cases hl), fun t _ ht => getD_in (by simpa using ht) (getD_replicate_false _ _)⟩
  have hu : unlisted (Array.replicate l.toArray.size false) = ys.length + (l.toArray.size - ys.length) := by
    unfold unlisted
    rw [Array.toList_replicate, List.countP_replicate]
    simp
    omega
  have hys : 0 < ys.length := (List.getElem?_eq_some_iff.1 h0y).1
  have T0 : Telling l ys a0 W (fun _ => 0) (Array.replicate l.toArray.size false) a0 { W with drawn := W.drawn + 1 } :=
    ⟨rfl, rfl, ⟨rfl, rfl, rfl, Nat.le_refl _, fun _ _ => rfl⟩, fun _ _ => rfl, fun i o y d _ _ hl => (by rw [getD_replicate_false] at hl; cases hl), fun i y b _ _ hl => (by rw [getD_replicate_false] at hl; cases hl),
      fun i j y z b c _ _ _ _ _ hl => (by rw [getD_replicate_false] at hl; cases hl)⟩
  have hl0 : 0 < l.length := by omega
  have T1 := T0.plain ok hys h0o h0y (by simpa using hl0) (getD_replicate_false _ _) (v := v0) rfl rfl (Below.refl _ _)
  have hr0 : 0 ∈ Region.ready .any l.toArray (Array.replicate l.toArray.size false) := by simpa using h0r
  have hun := unlisted_set (mem_ready.1 hr0).1
  have := key (ys.length - 1) _ _ _ _ (inv0.set hr0 hys) (by omega) T1 (by simp [hl0])
  have h3 := wpAny_take (P := P) (md := .any) (Q := Q) (fuel := ys.length - 1 + (l.toArray.size - ys.length)) (i := 0) (oi := o0) (v := v0) (listed := Array.replicate l.toArray.size false) (a := a0) (w := { W with drawn := W.drawn + 1 }) (by simpa using h0o) hsel h0f h0r h0Q h0Y this
  rwa [show ys.length - 1 + (l.toArray.size - ys.length) + 1 = l.toArray.size by omega] at h3

end

end Go.Proofs.Ytflncnfagoekcaa.More
