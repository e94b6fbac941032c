/- Texts of this proof that follow each other, in one file. -/
import Derived.Test.YtflncnfagoekcaaPart2
import Derived.Test.YtflncnfagoekcaaPart8
import Derived.Test.YtflncnfagoekcaaPart1
import Derived.Laws.OwnMore
import Derived.ProofKit
import Derived.OpenShut
import Derived.Carry
import Derived.Deep.Slices
/-! Walks of trees, by the depths of boxes in a list. No program is in it. -/
namespace Go.Proofs.Ytflncnfagoekcaa.Walk
open Go.Proofs.Ytflncnfagoekcaa.Record Go.Proofs.Ytflncnfagoekcaa.Script Go.Proofs.Ytflncnfagoekcaa.Tree

/-- A box is entered, or left. -/
structure Ev where
  a : Int
  l : Bool
deriving DecidableEq

/-- The events of boxes from a place up to another one. -/
def wlk (d : Nat → Int) (o : Nat → Bool) (n : Nat) (wh : Bool) (i tz : Nat) : List Ev :=
  if _h : i < tz ∧ i < n then
    ⟨(i : Int), false⟩ :: ((if wh || !o i then wlk d o n wh (i + 1) (en d n i) else []) ++ ⟨(i : Int), true⟩ :: wlk d o n wh (en d n i) tz)
  else []
termination_by n - i
decreasing_by all_goals (have := en_spec d n i _h.2; omega)

theorem wlk_end (d : Nat → Int) (o : Nat → Bool) (n : Nat) (wh : Bool) {i tz : Nat} (h : tz ≤ i) : wlk d o n wh i tz = [] := by
  rw [wlk, dif_neg (by omega)]

theorem wlk_next (d : Nat → Int) (o : Nat → Bool) (n : Nat) (wh : Bool) {i tz : Nat} (h : i < tz) (hn : i < n) :
    wlk d o n wh i tz = ⟨(i : Int), false⟩ :: ((if wh || !o i then wlk d o n wh (i + 1) (en d n i) else []) ++ ⟨(i : Int), true⟩ :: wlk d o n wh (en d n i) tz) := by
  rw [wlk, dif_pos ⟨h, hn⟩]

/-- No box from i on that begins ahead of 'tz' ends behind it. -/
def Nested (d : Nat → Int) (n i tz : Nat) : Prop := tz ≤ n ∧ ∀ j, i ≤ j → j < tz → en d n j ≤ tz

theorem nested_all (d : Nat → Int) (n i : Nat) : Nested d n i n := ⟨Nat.le_refl _, fun j _ h => (en_spec d n j h).2.1⟩
theorem nested_in (d : Nat → Int) (n i : Nat) (hi : i < n) : Nested d n (i + 1) (en d n i) := ⟨(en_spec d n i hi).2.1, fun j h1 h2 => en_nest d n i j hi (by omega) h2⟩
theorem Nested.later {d : Nat → Int} {n i j tz : Nat} (h : Nested d n i tz) (hj : i ≤ j) : Nested d n j tz := ⟨h.1, fun k h1 h2 => h.2 k (by omega) h2⟩

theorem wlk_len (d : Nat → Int) (o : Nat → Bool) (n : Nat) (wh : Bool) : ∀ m i tz, n - i < m → Nested d n i tz → (wlk d o n wh i tz).length ≤ 2 * (tz - i)
  | 0, _, _, h, _ => by omega
  | m + 1, i, tz, hm, hp => by
    by_cases h : i < tz
    · have hn : i < n := by have := hp.1; omega
      obtain ⟨e1, e2, -, -⟩ := en_spec d n i hn
      have h1 := hp.2 i (Nat.le_refl _) h
      have h2 := wlk_len d o n wh m (i + 1) (en d n i) (by omega) (nested_in d n i hn)
      have h3 := wlk_len d o n wh m (en d n i) tz (by omega) (hp.later (by omega))
      rw [wlk_next d o n wh h hn]
      simp only [List.length_cons, List.length_append]
      split <;> simp <;> omega
    · rw [wlk_end d o n wh (by omega)]; simp

end Go.Proofs.Ytflncnfagoekcaa.Walk

/-! Lists of one's own of whatever lies in several cells (structs of numbers): read, appended to, and turned in place. -/
namespace Go.Proofs.Ytflncnfagoekcaa.More
open Go.RowKit

/-- How the values of a kind lie in cells. -/
structure Enc (α : Type) where
  size : Nat
  cells : α → List Value
  len : ∀ a, (cells a).length = size
  one : ∀ a, ∀ u ∈ cells a, u.oneCell' = true
  pos : 0 < size

section
variable {α : Type} (E : Enc α)

theorem Enc.flat_len (xs : List α) : (xs.flatMap E.cells).length = xs.length * E.size := by
  induction xs with
  | nil => simp
  | cons x xs ih => simp only [List.flatMap_cons, List.length_append, E.len, ih, List.length_cons, Nat.add_mul, Nat.one_mul]; omega

theorem Enc.flat_at (xs : List α) : ∀ (k : Nat) (a : α), xs[k]? = some a → ∀ j, j < E.size → (xs.flatMap E.cells)[k * E.size + j]? = (E.cells a)[j]? := by
  induction xs with
  | nil => intro k a h; simp at h
  | cons x xs ih =>
    intro k a h j hj
    rw [List.flatMap_cons]
    cases k with
    | zero =>
      obtain rfl : x = a := by simpa using h
      rw [Nat.zero_mul, Nat.zero_add, List.getElem?_append_left (by rw [E.len]; exact hj)]
    | succ k =>
      have e : (k + 1) * E.size + j - E.size = k * E.size + j := by rw [Nat.add_mul, Nat.one_mul]; omega
      rw [List.getElem?_append_right (by rw [E.len, Nat.add_mul, Nat.one_mul]; omega), E.len, e]
      exact ih k a (by simpa using h) j hj

theorem Enc.flat_set (xs : List α) : ∀ (k : Nat) (a a' : α) (j : Nat) (u : Value), xs[k]? = some a → j < E.size → E.cells a' = (E.cells a).set j u → (xs.flatMap E.cells).set (k * E.size + j) u = (xs.set k a').flatMap E.cells := by
  induction xs with
  | nil => intro k a a' j u h; simp at h
  | cons x xs ih =>
    intro k a a' j u h hj hc
    cases k with
    | zero =>
      obtain rfl : x = a := by simpa using h
      rw [List.flatMap_cons, Nat.zero_mul, Nat.zero_add, List.set_append_left _ _ (by rw [E.len]; exact hj), List.set_cons_zero, List.flatMap_cons, hc]
    | succ k =>
      have e : (k + 1) * E.size + j - E.size = k * E.size + j := by rw [Nat.add_mul, Nat.one_mul]; omega
      rw [List.flatMap_cons, List.set_append_right _ _ (by rw [E.len, Nat.add_mul, Nat.one_mul]; omega), E.len, e, List.set_cons_succ, List.flatMap_cons]
      congr 1
      exact ih k a a' j u (by simpa using h) hj hc

theorem Enc.flat_cells (xs : List α) : ∀ u ∈ xs.flatMap E.cells, u.oneCell' = true := by
  intro u hu
  rw [List.mem_flatMap] at hu
  obtain ⟨a, _, h⟩ := hu
  exact E.one a u h

/-- A slice of one's own. -/
def MineE (T : TypeId) (w : World) (B : Nat) (A : Option Addr) (n c : Nat) (xs : List α) : Prop :=
  w.ownsRow B T E.size (.slice A n c) n (xs.flatMap E.cells)

theorem shapeE {T : TypeId} {w : World} {B : Nat} {s : Nat} {v : Value} {n : Nat} {xs : List Value} (h : w.ownsRow B T s v n xs) : ∃ A c, v = .slice A n c := by
  rcases h.2 with ⟨rfl, rfl⟩ | ⟨g, cap, cur, rfl, _⟩
  · exact ⟨none, 0, rfl⟩
  · exact ⟨_, _, rfl⟩

section
variable {E} {T : TypeId} {w w' : World} {B : Nat} {A : Option Addr} {n c : Nat} {xs : List α}

theorem MineE.len (h : MineE E T w B A n c xs) : xs.length = n := by
  have := h.1
  rw [E.flat_len] at this
  exact Nat.eq_of_mul_eq_mul_right E.pos this

theorem MineE.lt (h : MineE E T w B A n c xs) : ∀ k, blk A = some k → B ≤ k ∧ k < w.heap.size := by
  intro k hk
  exact World.ownsRow.lt h k (by rw [ownBlock_blk]; exact hk)

theorem MineE.mono {C : Nat} (h : MineE E T w B A n c xs) (hC : C ≤ B) : MineE E T w C A n c xs := by
  refine ⟨h.1, ?_⟩
  rcases h.2 with h | ⟨g, cap, cur, e, hb, r⟩
  · exact .inl h
  · exact .inr ⟨g, cap, cur, e, by omega, r⟩

theorem MineE.kept {row : Option Nat} (h : MineE E T w B A n c xs) (hg : w.grownBy w' row) (hne : ∀ k, blk A = some k → row ≠ some k) : MineE E T w' B A n c xs := by
  refine World.ownsRow.kept h hg ?_
  rw [ownBlock_blk]
  cases hb : blk A with
  | none => exact .inl rfl
  | some k => exact .inr fun e => hne k hb e.symm

theorem MineE.below (h : MineE E T w B A n c xs) (hb : Below w.heap.size w w') : MineE E T w' B A n c xs :=
  h.kept (grown_of_below hb) (fun k _ e => by cases e)

theorem MineE.alloc (h : MineE E T w B A n c xs) (o : Obj) : MineE E T (w.alloc o) B A n c xs := World.ownsRow.alloc h o
theorem MineE.drew (h : MineE E T w B A n c xs) : MineE E T w.drew B A n c xs := h

/-- Where a list lies that has something. -/
theorem MineE.form (h : MineE E T w B A n c xs) (hn : 0 < n) : ∃ g, A = some ⟨g, 0, none⟩ ∧ B ≤ g ∧ g < w.heap.size ∧ n ≤ c ∧ c ≤ maxLen := by
  rcases h.2 with ⟨_, h0⟩ | ⟨g, cap, cur, e, hb, hg, hc, hm, _⟩
  · omega
  · injection e with e1 e2 e3
    subst e1 e3
    exact ⟨g, rfl, hb, (Array.getElem?_eq_some_iff.1 hg).1, hc, hm⟩

theorem MineE.at {g : Nat} (h : MineE E T w B (some ⟨g, 0, none⟩) n c xs) (k : Nat) (a : α) (ha : xs[k]? = some a) (j : Nat) (hj : j < E.size) : w.cell? ⟨g, k * E.size + j, none⟩ = (E.cells a)[j]? := by
  have hl := h.len
  have hk := (List.getElem?_eq_some_iff.1 ha).1
  have h1 : k * E.size + j < n * E.size := by
    have h2 : (k + 1) * E.size ≤ n * E.size := Nat.mul_le_mul_right _ (by omega)
    rw [Nat.add_mul, Nat.one_mul] at h2
    omega
  rw [World.ownsRow.cellAt h _ h1, E.flat_at xs k a ha j hj]

theorem MineE.frozen {g : Nat} (h : MineE E T w B (some ⟨g, 0, none⟩) n c xs) (j : Nat) : w.frozen? ⟨g, j, none⟩ = false := World.ownsRow.frozenAt h j

/-- One cell of one of them is turned. -/
theorem MineE.stored {g : Nat} (h : MineE E T w B (some ⟨g, 0, none⟩) n c xs) (k : Nat) (a a' : α) (ha : xs[k]? = some a) (j : Nat) (hj : j < E.size) (u : Value) (hc : E.cells a' = (E.cells a).set j u) :
    MineE E T (w.setCell ⟨g, k * E.size + j, none⟩ u) B (some ⟨g, 0, none⟩) n c (xs.set k a') ∧ w.grownBy (w.setCell ⟨g, k * E.size + j, none⟩ u) (some g) := by
  obtain ⟨h1, h2⟩ := World.ownsRow.stored h (k * E.size + j) u
  refine ⟨?_, h2⟩
  unfold MineE
  rw [← E.flat_set xs k a a' j u ha hj hc]
  exact h1

end

/-- What is appended: m of them, of a slice, nil or not. -/
def SrcE (w : World) (A : Option Addr) (m c : Nat) (ys : List α) : Prop :=
  ys.length = m ∧ (A = none → c = 0) ∧ ∀ j u, (ys.flatMap E.cells)[j]? = some u → ∃ ad : Addr, A = some ad ∧ w.cell? (ad.add j) = some u

/-- What the model knows of a type. -/
def InfoE (T TS : TypeId) (bytes : Nat) : Prop :=
  Try.prog.underlying TS = some (.slice T) ∧ ∃ z : Value, z.cells.size = E.size ∧ (Try.prog.info? T).map (fun i => (i.zero, i.size, i.bytes)) = some (some z, E.size, bytes)

/-- What an append leaves. -/
def AppendedE (T : TypeId) (w : World) (B : Nat) (A : Option Addr) (n : Nat) (xs ys : List α) (m : Nat) (A' : Option Addr) (c' : Nat) (w' : World) : Prop :=
  MineE E T w' B A' (n + m) c' (xs ++ ys) ∧ w.grownBy w' (blk A) ∧ (blk A' = blk A ∨ blk A' = some w.heap.size)

theorem run_append_E {T TS : TypeId} {bytes : Nat} (hb2 : bytes ≤ 10000) (hT : InfoE E T TS bytes) (ty : TypeId) (w : World) (B : Nat) (A : Option Addr) (n c : Nat) (xs : List α) (hown : MineE E T w B A n c xs) (A2 : Option Addr) (m c2 : Nat) (ys : List α) (hs : SrcE E w A2 m c2 ys)
    (hlen : n + m ≤ 1000000) (hB : B ≤ w.heap.size) :
    ∃ A' c' w', (Builtin.append_ #[TS, TS] ty #[.slice A n c, .slice A2 m c2]).run Try.prog w = .ok (.slice A' (n + m) c') w' ∧ AppendedE E T w B A n xs ys m A' c' w' := by
  obtain ⟨hu, z, hzc, hinfo⟩ := hT
  obtain ⟨i0, hi0, hz0, hz1, hz2⟩ := info_parts hinfo
  obtain ⟨h1, h2, h3⟩ := hs
  cases A2 with
  | none =>
    have hm : m = 0 := by
      rcases Nat.eq_zero_or_pos m with h | h
      · exact h
      · cases ys with
        | nil => simp at h1; omega
        | cons y ys =>
          have hp := E.pos
          have hl := E.len y
          obtain ⟨ad, e, _⟩ := h3 0 ((E.cells y)[0]'(by omega)) (by rw [List.flatMap_cons, List.getElem?_append_left (by omega)]; simp)
          cases e
    subst hm
    have hy : ys = [] := List.eq_nil_of_length_eq_zero h1
    subst hy
    obtain rfl := h2 rfl
    exact ⟨A, c, w, run_append_owned_none (P := Try.prog) w B TS ty T i0 E.size hu hi0 _ n _ hown, by simpa [MineE] using hown, World.grownBy.refl w _, .inl rfl⟩
  | some ad =>
    have hcells : ∀ j u, (ys.flatMap E.cells)[j]? = some u → w.cell? (ad.add j) = some u := by
      intro j u hu
      obtain ⟨ad', e, hc⟩ := h3 j u hu
      obtain rfl := Option.some.inj e
      exact hc
    have hbn : (n + m) * bytes ≤ 1000000 * 10000 := Nat.mul_le_mul hlen hb2
    obtain ⟨v', w', hrun, g2, g3, _, g5⟩ := run_append_own_at (P := Try.prog) w B TS ty T i0 z E.size bytes hu hi0 hz0 hz1 hz2 hzc E.pos _ n _ hown ad m c2 _ (by rw [E.flat_len, h1]) hcells
      (E.flat_cells ys) (by simp only [maxLen]; omega) (by omega) hB
    obtain ⟨A', c', rfl⟩ := shapeE g2
    refine ⟨A', c', w', hrun, ?_, ?_, ?_⟩
    · unfold MineE; rw [List.flatMap_append]; exact g2
    · rw [ownBlock_blk] at g3; exact g3
    · rw [ownBlock_blk, ownBlock_blk] at g5; exact g5

theorem wpList_append_E {E : Enc α} {T TS : TypeId} {bytes : Nat} (hb2 : bytes ≤ 10000) (hT : InfoE E T TS bytes) (w : World) {ops : Array Oper} {rest : List Oper} {o : Oper} {a : Act} {Q : Exit → Act → World → Prop} (hgd : o.guard = none) (s x : Operand)
    (ho : o.op = .call { callee := .builtin .append, args := #[s, x], argTypes := #[TS, TS] })
    (B : Nat) (A : Option Addr) (n c : Nat) (xs : List α) (hs : a.eval s = .slice A n c) (hown : MineE E T w B A n c xs) (A2 : Option Addr) (m c2 : Nat) (ys : List α) (hx : a.eval x = .slice A2 m c2) (hsrc : SrcE E w A2 m c2 ys)
    (hlen : n + m ≤ 1000000) (hB : B ≤ w.heap.size)
    (h : ∀ A' c' w', AppendedE E T w B A n xs ys m A' c' w' → wpList Try.prog ops Q rest (a.put o.dst (.slice A' (n + m) c')) w') : wpList Try.prog ops Q (o :: rest) a w := by
  refine wpList_plain hgd fun _ hK => ?_
  obtain ⟨A', c', w', hr, h2⟩ := run_append_E E hb2 hT o.type w B A n c xs hown A2 m c2 ys hsrc hlen hB
  unfold Oper.wp execOp
  simp only [ho, resolve, invoke, builtin, Sem.run_bind, Sem.run_pure, Result.andThen_ok, List.map_toArray, List.map_cons, List.map_nil, hs, hx, hr]
  exact hK _ _ (h A' c' w' h2)

/-- What a block of cells gives to be appended. -/
theorem srcE_of (w : World) (a : α) (T : TypeId) (g : Nat) (h : w.heap[g]? = some (.cells (E.cells a).toArray T)) : SrcE E w (some ⟨g, 0, none⟩) 1 1 [a] := by
  refine ⟨rfl, fun e => (by cases e), fun j u hu => ⟨_, rfl, ?_⟩⟩
  have hu' : (E.cells a)[j]? = some u := by simpa using hu
  have hadd : (⟨g, 0, none⟩ : Addr).add j = ⟨g, j, none⟩ := by unfold Addr.add; split <;> simp_all
  rw [hadd, cell_of_row w g j _ _ _ h]
  simpa using hu'

theorem MineE.src {E : Enc α} {T : TypeId} {w : World} {B : Nat} {A : Option Addr} {n c : Nat} {xs : List α} (h : MineE E T w B A n c xs) : SrcE E w A n c xs := by
  refine ⟨h.len, fun e => ?_, fun j u hu => ?_⟩
  · subst e
    rcases h.2 with ⟨e, _⟩ | ⟨g', cap', cur, e, _⟩
    · injection e
    · simp at e
  · have hj := (List.getElem?_eq_some_iff.1 hu).1
    rw [E.flat_len, h.len] at hj
    have hn : 0 < n := by
      rcases Nat.eq_zero_or_pos n with e | e
      · subst e; simp at hj
      · exact e
    obtain ⟨g, rfl, _⟩ := h.form hn
    exact ⟨_, rfl, World.ownsRow.cells h (g := g) rfl j u hu⟩

theorem emptyE_mine (T : TypeId) (w : World) (B : Nat) (hB : B ≤ w.heap.size) : MineE E T (w.alloc (.cells #[] T)) B (some ⟨w.heap.size, 0, none⟩) 0 0 [] :=
  World.ownsRow_lit w #[] 0 hB (by unfold maxLen; omega) (by simp)

theorem oneE_src (w : World) (a : α) (T : TypeId) : SrcE E (w.alloc (.cells (E.cells a).toArray T)) (some ⟨w.heap.size, 0, none⟩) 1 1 [a] := by
  have hm : (w.alloc (.cells (E.cells a).toArray T)).ownsRow 0 T E.size (.slice (some ⟨w.heap.size, 0, none⟩) 1 1) 1 (E.cells a) := by
    have := World.ownsRow_lit (e := T) (size := E.size) (base := 0) w (E.cells a).toArray 1 (Nat.zero_le _) (by unfold maxLen; omega) (by simp [E.len])
    simpa using this
  refine ⟨rfl, fun e => (by cases e), fun j u hu => ?_⟩
  have hu' : (E.cells a)[j]? = some u := by simpa using hu
  exact ⟨_, rfl, World.ownsRow.cells hm (g := w.heap.size) rfl j u hu'⟩

theorem noneE_mine (T : TypeId) (w : World) (B : Nat) : MineE E T w B none 0 0 [] := World.ownsRow_nil w B T E.size

theorem AppendedE.below {E : Enc α} {T : TypeId} {w W : World} {B C : Nat} {A : Option Addr} {n c : Nat} {xs ys : List α} {m : Nat} {A' : Option Addr} {c' : Nat} {w' : World}
    (h : AppendedE E T w B A n xs ys m A' c' w') (hown : MineE E T w B A n c xs) (hw : Below C W w) (hC : C ≤ B) (hB : C ≤ w.heap.size) : Below C W w' :=
  hw.grown h.2.1 hB (fun k hk => by have := (hown.lt k hk).1; omega)

end

end Go.Proofs.Ytflncnfagoekcaa.More

/-! How the laws end; what comes in. -/
namespace Go.Proofs.Ytflncnfagoekcaa
open Go.RowKit

section
open Go.ChangeShapes Go.WideShapes Go.ChangeAt
variable {H : Type} {enc : TypeId × Value → H} {P : Program}

/-- The end of a call that leaves all old memory as it was, and may lay what it likes behind it. -/
theorem ends_low {f : Func} {s : ChangeSpec} {apart fresh handsOn again : Bool} {W V : World} {args : Array Value} {v : Value} {ds gs : List (DataW H)} {places pa pv : List MemPlace}
    (whole : DataW.Whole enc P f.params.toList s.vars apart W args.toList ds gs places)
    (results : ∀ (b : Nat) (sp : Nat → Bool) (hd : Bool), DataW.TrodAll enc P V b sp hd f.resultTypes.toList (v.resultList f.resultTypes.size) (s.fn H (ds ++ gs)).results [])
    (arguments : ∀ sp : Nat → Bool, (∀ p ∈ places, sp p.block = true) → DataW.TrodAll enc P V 0 sp true f.params.toList args.toList (s.fn H (ds ++ gs)).args pa)
    (variables : ∀ sp : Nat → Bool, (∀ p ∈ places, sp p.block = true) → DataW.TrodVars enc P V sp s.vars (s.fn H (ds ++ gs)).vars pv)
    (parts : places = pa ++ pv) (low : Below W.heap.size W V)
    (forms : ∀ (j : Nat) (t : TypeId) (r : Value), f.resultTypes[j]? = some t → (v.resultList f.resultTypes.size)[j]? = some r → Value.okWide P V .any 0 t r) :
    s.post enc P f apart fresh handsOn again W args v V := by
  have old : ∀ p ∈ places, p.block < W.heap.size := fun p h => whole.lt p h
  have mark : ∀ p ∈ places, (fun b => decide (b < W.heap.size)) p.block = true := fun p h => by simpa using old p h
  subst parts
  obtain ⟨_, _, _, _, _, thawed, once⟩ := id whole
  refine ⟨ds, gs, pa ++ pv, [], pa, pv, whole, results _ _ _, arguments _ mark, variables _ mark, ?_, fun _ => ⟨forms, _, _, ([] ++ pa) ++ pv, ⟨[] ++ pa, pv, trodAll_append (arguments _ (fun _ _ => rfl)) (results _ _ _), variables _ (fun _ _ => rfl), rfl, ?_, ?_⟩, ?_⟩⟩
  · exact World.keptBut_mono (fun p h => ⟨h, Or.inr (List.mem_append.1 h)⟩) (low.frame (· ∈ pa ++ pv))
  · intro b off h
    have h' : MemPlace.cell b off ∈ pa ++ pv := by simpa using h
    rw [low.frozen (old _ h')]
    exact thawed b off h'
  · intro h
    simpa using once h
  · intro p h _
    simpa using h
end


section
open Go.ChangeShapes Go.WideShapes Go.ChangeAt

theorem own : ownKnob Try.prog.godebug = none := by kernel_rfl
theorem laidOut : laidOutB Try.prog = true := by kernel_rfl
theorem cells3 : Try.prog.cellsOf 3 = 1 := by kernel_rfl

/-- A slice of numbers that came in. -/
theorem open_nums {H : Type} {enc : TypeId × Value → H} {W : World} {v : Value} {d : DataW H} {ps : List MemPlace} (hv : ∃ a len cap, v = .slice a len cap)
    (h : DataW.Trod enc Try.prog W 0 (fun _ => true) true 38 v d ps) :
    ∃ A len cap xs, v = .slice A len cap ∧ len = xs.length ∧ len ≤ 9223372036854775807 ∧ Nums W W.heap.size A xs ∧ (∀ n ∈ xs, -9223372036854775808 ≤ n ∧ n ≤ 9223372036854775807) := by
  obtain ⟨a0, len, cap, rfl⟩ := hv
  obtain ⟨fuel, hf⟩ := h
  rcases open_ints Try.underlying38 Try.underlying3 cells3 hf with ⟨hcs, hx⟩ | ⟨a, len', cap', zs, hcs, _, hl, hm, hz, hx, hcell, hwz⟩
  · simp [Value.cells] at hcs
    obtain ⟨rfl, rfl, rfl⟩ := hcs
    exact ⟨none, 0, 0, [], rfl, rfl, by omega, fun k hk => by simp at hk, fun n hn => by simp at hn⟩
  · simp [Value.cells] at hcs
    obtain ⟨rfl, rfl, rfl⟩ := hcs
    simp only [if_true] at hz
    unfold maxLen at hm
    refine ⟨some a, len, cap, zs.take len, rfl, by rw [List.length_take]; omega, by omega, fun k hk => ?_, fun n hn => ?_⟩
    · rw [List.length_take] at hk
      have hc := hcell k (by omega)
      have hb := World.block_lt_of_cell? _ _ hc
      rw [block_of_add] at hb
      refine ⟨a, rfl, hb, ?_⟩
      rw [hc]
      simp only [List.getD, List.getElem?_take]
      rw [if_pos (by omega)]
    · have := hwz n (List.mem_of_mem_take hn)
      simpa [Lit.wf, IntKind.min, IntKind.max, IntKind.signed, IntKind.bits] using this

theorem bounds {a : Int} (w : (Lit.int .i64 a).wf = true) : -9223372036854775808 ≤ a ∧ a ≤ 9223372036854775807 := by
  simpa [Lit.wf, IntKind.min, IntKind.max, IntKind.signed, IntKind.bits] using w

theorem bounds8 {a : Int} (w : (Lit.int .u8 a).wf = true) : 0 ≤ a ∧ a ≤ 255 := by
  simpa [Lit.wf, IntKind.min, IntKind.max, IntKind.signed, IntKind.bits] using w
end

end Go.Proofs.Ytflncnfagoekcaa

/-! A box that came in, by value. -/
namespace Go.Proofs.Ytflncnfagoekcaa.Record
open Go.ChangeShapes Go.WideShapes Go.ChangeAt Go.RowKit

theorem cellsInt : Try.prog.cellsOf 3 = 1 := by kernel_rfl
theorem cellsArr : Try.prog.cellsOf 46 = 4 := by kernel_rfl
theorem cellsBox : Try.prog.cellsOf 66 = 14 := by kernel_rfl

theorem array14 {α : Type} {cs : Array α} (h : cs.size = 14) : ∃ c0 c1 c2 c3 c4 c5 c6 c7 c8 c9 c10 c11 c12 c13, cs = #[c0, c1, c2, c3, c4, c5, c6, c7, c8, c9, c10, c11, c12, c13] := by
  obtain ⟨l⟩ := cs
  match l, h with
  | [c0, c1, c2, c3, c4, c5, c6, c7, c8, c9, c10, c11, c12, c13], _ => exact ⟨c0, c1, c2, c3, c4, c5, c6, c7, c8, c9, c10, c11, c12, c13, rfl⟩

section
variable {H : Type} {enc : TypeId × Value → H} {w : World} {base : Nat} {spare : Nat → Bool} {held : Bool}

theorem open_box {r : Reach} {b0 : Nat} {v : Value} {d : DataW H} {p : List MemPlace} (hv : Value.okWide Try.prog w r b0 66 v) (h : DataW.Trod enc Try.prog w base spare held 66 v d p) : ∃ b : Bx, v = b.v := by
  obtain ⟨cs, rfl, hsz⟩ := okWide_struct Try.underlying66 hv
  obtain ⟨c0, c1, c2, c3, c4, c5, c6, c7, c8, c9, c10, c11, c12, c13, rfl⟩ := array14 (hsz.trans cellsBox)
  obtain ⟨fuel, hf⟩ := h
  obtain ⟨xs, n, _, _, _, hlen, hf⟩ := DataW.trod_struct Try.underlying66 hf
  match xs, hlen with
  | [y0, y1, y2, y3, y4, y5, y6, y7], _ =>
    have f0 : DataW.trod enc Try.prog w base spare held n 3 (([c0, c1, c2, c3, c4, c5, c6, c7, c8, c9, c10, c11, c12, c13].drop 0).take (Try.prog.cellsOf 3)) = some y0 := hf 0 _ rfl
    have f1 : DataW.trod enc Try.prog w base spare held n 3 (([c0, c1, c2, c3, c4, c5, c6, c7, c8, c9, c10, c11, c12, c13].drop 1).take (Try.prog.cellsOf 3)) = some y1 := hf 1 _ rfl
    have f2 : DataW.trod enc Try.prog w base spare held n 3 (([c0, c1, c2, c3, c4, c5, c6, c7, c8, c9, c10, c11, c12, c13].drop 2).take (Try.prog.cellsOf 3)) = some y2 := hf 2 _ rfl
    have f3 : DataW.trod enc Try.prog w base spare held n 3 (([c0, c1, c2, c3, c4, c5, c6, c7, c8, c9, c10, c11, c12, c13].drop 3).take (Try.prog.cellsOf 3)) = some y3 := hf 3 _ rfl
    have f4 : DataW.trod enc Try.prog w base spare held n 3 (([c0, c1, c2, c3, c4, c5, c6, c7, c8, c9, c10, c11, c12, c13].drop 4).take (Try.prog.cellsOf 3)) = some y4 := hf 4 _ rfl
    have f5 : DataW.trod enc Try.prog w base spare held n 3 (([c0, c1, c2, c3, c4, c5, c6, c7, c8, c9, c10, c11, c12, c13].drop 5).take (Try.prog.cellsOf 3)) = some y5 := hf 5 _ rfl
    have f6 : DataW.trod enc Try.prog w base spare held n 46 (([c0, c1, c2, c3, c4, c5, c6, c7, c8, c9, c10, c11, c12, c13].drop 6).take (Try.prog.cellsOf 46)) = some y6 := hf 6 _ rfl
    have f7 : DataW.trod enc Try.prog w base spare held n 46 (([c0, c1, c2, c3, c4, c5, c6, c7, c8, c9, c10, c11, c12, c13].drop 10).take (Try.prog.cellsOf 46)) = some y7 := hf 7 _ rfl
    rw [cellsInt] at f0 f1 f2 f3 f4 f5
    rw [cellsArr] at f6 f7
    simp only [List.drop_succ_cons, List.drop_zero, List.take_succ_cons, List.take_zero] at f0 f1 f2 f3 f4 f5 f6 f7
    obtain ⟨x0, e0, -, -⟩ := DataW.trod_int Try.underlying3 f0
    obtain ⟨x1, e1, -, -⟩ := DataW.trod_int Try.underlying3 f1
    obtain ⟨x2, e2, -, -⟩ := DataW.trod_int Try.underlying3 f2
    obtain ⟨x3, e3, -, -⟩ := DataW.trod_int Try.underlying3 f3
    obtain ⟨x4, e4, -, -⟩ := DataW.trod_int Try.underlying3 f4
    obtain ⟨x5, e5, -, -⟩ := DataW.trod_int Try.underlying3 f5
    obtain ⟨_, _, _, _, _, _, g6, g7, g8, g9⟩ := ChangeShapes.trod_array4 Try.underlying46 cellsInt f6
    obtain ⟨_, _, _, _, _, _, g10, g11, g12, g13⟩ := ChangeShapes.trod_array4 Try.underlying46 cellsInt f7
    obtain ⟨x6, e6, -, -⟩ := DataW.trod_int Try.underlying3 g6
    obtain ⟨x7, e7, -, -⟩ := DataW.trod_int Try.underlying3 g7
    obtain ⟨x8, e8, -, -⟩ := DataW.trod_int Try.underlying3 g8
    obtain ⟨x9, e9, -, -⟩ := DataW.trod_int Try.underlying3 g9
    obtain ⟨x10, e10, -, -⟩ := DataW.trod_int Try.underlying3 g10
    obtain ⟨x11, e11, -, -⟩ := DataW.trod_int Try.underlying3 g11
    obtain ⟨x12, e12, -, -⟩ := DataW.trod_int Try.underlying3 g12
    obtain ⟨x13, e13, -, -⟩ := DataW.trod_int Try.underlying3 g13
    simp only [List.cons.injEq, and_true] at e0 e1 e2 e3 e4 e5 e6 e7 e8 e9 e10 e11 e12 e13
    subst e0 e1 e2 e3 e4 e5 e6 e7 e8 e9 e10 e11 e12 e13
    exact ⟨⟨x0, x1, x2, x3, x4, x5, x6, x7, x8, x9, x10, x11, x12, x13⟩, rfl⟩

end

end Go.Proofs.Ytflncnfagoekcaa.Record

/-! A list of boxes that came in. -/
namespace Go.Proofs.Ytflncnfagoekcaa.Script
open Go.ChangeShapes Go.WideShapes Go.ChangeAt Go.RowKit Go.Proofs.Ytflncnfagoekcaa.Record

theorem mapM_at {α β : Type} {f : α → Option β} : ∀ {l : List α} {r : List β}, l.mapM f = some r → ∀ (j : Nat) (x : α), l[j]? = some x → ∃ y, r[j]? = some y ∧ f x = some y := by
  intro l
  induction l with
  | nil => intro r h j x hx; simp at hx
  | cons a l ih =>
    intro r h j x hx
    rw [List.mapM_cons] at h
    simp only [bind, Option.bind_eq_some_iff, pure, Option.some.injEq] at h
    obtain ⟨b, hb, r', hr, rfl⟩ := h
    cases j with
    | zero =>
      simp only [List.getElem?_cons_zero, Option.some.injEq] at hx
      subst hx
      exact ⟨b, rfl, hb⟩
    | succ j =>
      simp only [List.getElem?_cons_succ] at hx ⊢
      exact ih hr j x hx

theorem lenM {α β : Type} {f : α → Option β} : ∀ {l : List α} {r : List β}, l.mapM f = some r → r.length = l.length := by
  intro l
  induction l with
  | nil => intro r h; simp at h; subst h; rfl
  | cons a l ih =>
    intro r h
    rw [List.mapM_cons] at h
    simp only [bind, Option.bind_eq_some_iff, pure, Option.some.injEq] at h
    obtain ⟨b, hb, r', hr, rfl⟩ := h
    simp [ih hr]

section
variable {H : Type} {enc : TypeId × Value → H} {w : World} {base : Nat} {spare : Nat → Bool} {held : Bool}

theorem list14 {α : Type} {l : List α} (h : l.length = 14) : ∃ c0 c1 c2 c3 c4 c5 c6 c7 c8 c9 c10 c11 c12 c13, l = [c0, c1, c2, c3, c4, c5, c6, c7, c8, c9, c10, c11, c12, c13] := by
  match l, h with
  | [c0, c1, c2, c3, c4, c5, c6, c7, c8, c9, c10, c11, c12, c13], _ => exact ⟨c0, c1, c2, c3, c4, c5, c6, c7, c8, c9, c10, c11, c12, c13, rfl⟩

/-- A box all whose numbers are ints. -/
def OkB (b : Bx) : Prop := ∀ x ∈ [b.d, b.k, b.s, b.c, b.w, b.h, b.m0, b.m1, b.m2, b.m3, b.e0, b.e1, b.e2, b.e3], (Lit.int .i64 x).wf = true

theorem okK {b : Bx} (h : OkB b) : (Lit.int .i64 b.k).wf = true := h b.k (by simp)

/-- The cells of a box that is read. -/
theorem cells_box {n : Nat} {cs : List Value} {y : DataW H × List MemPlace} (hl : cs.length = 14) (h : DataW.trod enc Try.prog w base spare held n 66 cs = some y) : ∃ b : Bx, cs = cellsOfB b ∧ OkB b := by
  obtain ⟨c0, c1, c2, c3, c4, c5, c6, c7, c8, c9, c10, c11, c12, c13, rfl⟩ := list14 hl
  obtain ⟨xs, n, _, _, _, hlen, hf⟩ := DataW.trod_struct Try.underlying66 h
  match xs, hlen with
  | [y0, y1, y2, y3, y4, y5, y6, y7], _ =>
    have f0 : DataW.trod enc Try.prog w base spare held n 3 (([c0, c1, c2, c3, c4, c5, c6, c7, c8, c9, c10, c11, c12, c13].drop 0).take (Try.prog.cellsOf 3)) = some y0 := hf 0 _ rfl
    have f1 : DataW.trod enc Try.prog w base spare held n 3 (([c0, c1, c2, c3, c4, c5, c6, c7, c8, c9, c10, c11, c12, c13].drop 1).take (Try.prog.cellsOf 3)) = some y1 := hf 1 _ rfl
    have f2 : DataW.trod enc Try.prog w base spare held n 3 (([c0, c1, c2, c3, c4, c5, c6, c7, c8, c9, c10, c11, c12, c13].drop 2).take (Try.prog.cellsOf 3)) = some y2 := hf 2 _ rfl
    have f3 : DataW.trod enc Try.prog w base spare held n 3 (([c0, c1, c2, c3, c4, c5, c6, c7, c8, c9, c10, c11, c12, c13].drop 3).take (Try.prog.cellsOf 3)) = some y3 := hf 3 _ rfl
    have f4 : DataW.trod enc Try.prog w base spare held n 3 (([c0, c1, c2, c3, c4, c5, c6, c7, c8, c9, c10, c11, c12, c13].drop 4).take (Try.prog.cellsOf 3)) = some y4 := hf 4 _ rfl
    have f5 : DataW.trod enc Try.prog w base spare held n 3 (([c0, c1, c2, c3, c4, c5, c6, c7, c8, c9, c10, c11, c12, c13].drop 5).take (Try.prog.cellsOf 3)) = some y5 := hf 5 _ rfl
    have f6 : DataW.trod enc Try.prog w base spare held n 46 (([c0, c1, c2, c3, c4, c5, c6, c7, c8, c9, c10, c11, c12, c13].drop 6).take (Try.prog.cellsOf 46)) = some y6 := hf 6 _ rfl
    have f7 : DataW.trod enc Try.prog w base spare held n 46 (([c0, c1, c2, c3, c4, c5, c6, c7, c8, c9, c10, c11, c12, c13].drop 10).take (Try.prog.cellsOf 46)) = some y7 := hf 7 _ rfl
    rw [cellsInt] at f0 f1 f2 f3 f4 f5
    rw [cellsArr] at f6 f7
    simp only [List.drop_succ_cons, List.drop_zero, List.take_succ_cons, List.take_zero] at f0 f1 f2 f3 f4 f5 f6 f7
    obtain ⟨x0, e0, -, o0⟩ := DataW.trod_int Try.underlying3 f0
    obtain ⟨x1, e1, -, o1⟩ := DataW.trod_int Try.underlying3 f1
    obtain ⟨x2, e2, -, o2⟩ := DataW.trod_int Try.underlying3 f2
    obtain ⟨x3, e3, -, o3⟩ := DataW.trod_int Try.underlying3 f3
    obtain ⟨x4, e4, -, o4⟩ := DataW.trod_int Try.underlying3 f4
    obtain ⟨x5, e5, -, o5⟩ := DataW.trod_int Try.underlying3 f5
    obtain ⟨_, _, _, _, _, _, g6, g7, g8, g9⟩ := ChangeShapes.trod_array4 Try.underlying46 cellsInt f6
    obtain ⟨_, _, _, _, _, _, g10, g11, g12, g13⟩ := ChangeShapes.trod_array4 Try.underlying46 cellsInt f7
    obtain ⟨x6, e6, -, o6⟩ := DataW.trod_int Try.underlying3 g6
    obtain ⟨x7, e7, -, o7⟩ := DataW.trod_int Try.underlying3 g7
    obtain ⟨x8, e8, -, o8⟩ := DataW.trod_int Try.underlying3 g8
    obtain ⟨x9, e9, -, o9⟩ := DataW.trod_int Try.underlying3 g9
    obtain ⟨x10, e10, -, o10⟩ := DataW.trod_int Try.underlying3 g10
    obtain ⟨x11, e11, -, o11⟩ := DataW.trod_int Try.underlying3 g11
    obtain ⟨x12, e12, -, o12⟩ := DataW.trod_int Try.underlying3 g12
    obtain ⟨x13, e13, -, o13⟩ := DataW.trod_int Try.underlying3 g13
    simp only [List.cons.injEq, and_true] at e0 e1 e2 e3 e4 e5 e6 e7 e8 e9 e10 e11 e12 e13
    subst e0 e1 e2 e3 e4 e5 e6 e7 e8 e9 e10 e11 e12 e13
    refine ⟨⟨x0, x1, x2, x3, x4, x5, x6, x7, x8, x9, x10, x11, x12, x13⟩, rfl, fun x hx => ?_⟩
    simp only [List.mem_cons, List.not_mem_nil, or_false] at hx
    rcases hx with h | h | h | h | h | h | h | h | h | h | h | h | h | h <;> (subst h; assumption)

end

/-- A slice of boxes that came in. -/
theorem open_boxes {H : Type} {enc : TypeId × Value → H} {W : World} {v : Value} {d : DataW H} {ps : List MemPlace} (hv : ∃ a len cap, v = .slice a len cap)
    (h : DataW.Trod enc Try.prog W 0 (fun _ => true) true 22 v d ps) :
    ∃ A len cap bs, v = .slice A len cap ∧ len = bs.length ∧ len ≤ 9223372036854775807 ∧ len ≤ cap ∧ (A = none → cap = 0) ∧ Boxes W W.heap.size A bs ∧ ∀ b ∈ bs, OkB b := by
  obtain ⟨a0, len, cap, rfl⟩ := hv
  obtain ⟨fuel, hf⟩ := h
  rcases Go.Deep.open_slice Try.underlying22 hf with ⟨hcs, hx⟩ | ⟨a, len', cap', m, n, D, Pl, hcs, _, hl, hm, hz, hx, hcell⟩
  · simp [Value.cells] at hcs
    obtain ⟨rfl, rfl, rfl⟩ := hcs
    exact ⟨none, 0, 0, [], rfl, rfl, by omega, by omega, fun _ => rfl, fun k hk => by simp at hk, fun b hb => by simp at hb⟩
  · simp [Value.cells] at hcs
    obtain ⟨rfl, rfl, rfl⟩ := hcs
    simp only [if_true] at hz
    subst hz
    unfold maxLen at hm
    have each : ∀ i, ∃ b : Bx, i < len → a.block < W.heap.size ∧ AtP W (a.add (i * 14)) b ∧ OkB b := fun i => by
      by_cases hi : i < len
      · obtain ⟨cs', hc, ht⟩ := hcell i (by omega)
        rw [cellsBox] at hc
        unfold World.cells? at hc
        split at hc
        · have hl14 : cs'.length = 14 := by
            have := lenM hc
            simpa using this
          obtain ⟨b, rfl, hok⟩ := cells_box hl14 ht
          refine ⟨b, fun _ => ?_⟩
          have hat : ∀ j v, (cellsOfB b)[j]? = some v → W.cell? ((a.add (i * 14)).add j) = some v := fun j v hv => by
            have hj : j < 14 := by
              have := (List.getElem?_eq_some_iff.1 hv).1
              rwa [cellsOfB_len] at this
            obtain ⟨y, hy, hfy⟩ := mapM_at hc j j (by simp [List.getElem?_range hj])
            rw [hv] at hy
            injection hy with hy
            rw [hy]
            exact hfy
          refine ⟨?_, AtP.of_cells hat, hok⟩
          have hb := World.block_lt_of_cell? _ _ (hat 0 _ rfl)
          rw [block_of_add, block_of_add] at hb
          exact hb
        · simp at hc
      · exact ⟨noB, fun h => absurd h hi⟩
    obtain ⟨f, hf⟩ := Classical.axiomOfChoice each
    refine ⟨some a, len, _, (List.range len).map f, rfl, by simp, by omega, hl, fun e => (by cases e), fun k hk => ?_, fun b hb => ?_⟩
    · have hk' : k < len := by simpa using hk
      obtain ⟨h1, h2, -⟩ := hf k hk'
      refine ⟨a, rfl, h1, ?_⟩
      simpa [List.getD, hk'] using h2
    · rw [List.mem_map] at hb
      obtain ⟨i, hi, rfl⟩ := hb
      exact (hf i (by simpa using hi)).2.2

end Go.Proofs.Ytflncnfagoekcaa.Script

/-! What is asked of the program's trees, whatever they look like in memory; the law's example, and its Begin. -/
namespace Go.Proofs.Ytflncnfagoekcaa.Tree
open Go.RowKit Go.Sort Go.Proofs.Ytflncnfagoekcaa.Record Go.Proofs.Ytflncnfagoekcaa.Script

/-- Has a tree a place? -/
def hasT (bs : List Bx) (i : Int) : Prop := 0 ≤ i ∧ i < bs.length

instance (bs : List Bx) (i : Int) : Decidable (hasT bs i) := inferInstanceAs (Decidable (_ ∧ _))

def boxT (bs : List Bx) (i : Int) : Bx := if hasT bs i then bs.getD i.toNat noB else noB
def parT (bs : List Bx) (i : Int) : Int := if hasT bs i then par (dOf bs) i.toNat else -1
def enT (bs : List Bx) (i : Int) : Int := if hasT bs i then (en (dOf bs) bs.length i.toNat : Int) else -1
def ctxT (bs : List Bx) (i : Int) : Int := if hasT bs i then (ctx (dOf bs) (oOf bs) i.toNat : Int) else -1
def kidsT (bs : List Bx) (i : Int) : List Int := if hasT bs i then (kids (dOf bs) bs.length i.toNat).map Int.ofNat else []
def opensT (bs : List Bx) : List Int := (((List.range bs.length).filter (oOf bs)).map Int.ofNat).reverse

theorem hasT_nat {bs : List Bx} {i : Nat} (h : i < bs.length) : hasT bs (i : Int) := ⟨by omega, by omega⟩
theorem boxT_nat {bs : List Bx} {i : Nat} (h : i < bs.length) : boxT bs (i : Int) = bs.getD i noB := by unfold boxT; rw [if_pos (hasT_nat h)]; rfl
theorem parT_nat {bs : List Bx} {i : Nat} (h : i < bs.length) : parT bs (i : Int) = par (dOf bs) i := by unfold parT; rw [if_pos (hasT_nat h)]; rfl
theorem enT_nat {bs : List Bx} {i : Nat} (h : i < bs.length) : enT bs (i : Int) = en (dOf bs) bs.length i := by unfold enT; rw [if_pos (hasT_nat h)]; rfl
theorem ctxT_nat {bs : List Bx} {i : Nat} (h : i < bs.length) : ctxT bs (i : Int) = ctx (dOf bs) (oOf bs) i := by unfold ctxT; rw [if_pos (hasT_nat h)]; rfl
theorem kidsT_nat {bs : List Bx} {i : Nat} (h : i < bs.length) : kidsT bs (i : Int) = (kids (dOf bs) bs.length i).map Int.ofNat := by unfold kidsT; rw [if_pos (hasT_nat h)]; rfl

/-- A slice of numbers that lies somewhere. -/
def GivesL (xs : List Int) (w : World) (u : Value) : Prop := ∃ A c, u = .slice A xs.length c ∧ Nums w w.heap.size A xs

/-- .. in new memory, if it has numbers. -/
def GivesN (B : Nat) (xs : List Int) (w : World) (u : Value) : Prop := ∃ A c, u = .slice A xs.length c ∧ Nums w w.heap.size A xs ∧ (xs ≠ [] → ∀ ad, A = some ad → B ≤ ad.block)

/-- The contracts of the program's trees. -/
structure TreeOk (T : World → Addr → List Bx → Prop) : Prop where
  keep : ∀ w w' p bs, T w p bs → Below w.heap.size w w' → T w' p bs
  yes : ∀ (A : Option Addr) (n c : Nat) (bs : List Bx) (w : World), n = bs.length → n ≤ 1000 → 0 < n → Boxes w w.heap.size A bs → (∀ b ∈ bs, OkB b) → Fine bs n →
    Calls Try.prog 27 #[.slice A n c] w fun r w' => (∃ p, r = .returned (.tuple #[.pointer (some p), .int .i64 (-1), .int .i64 0]) ∧ T w' p bs) ∧ Below w.heap.size w w'
  no : ∀ (A : Option Addr) (n c : Nat) (bs : List Bx) (w : World) (a e : Int), n = bs.length → n ≤ 1000 → Boxes w w.heap.size A bs → (∀ b ∈ bs, OkB b) → chk bs = (a, e) → e ≠ 0 →
    Calls Try.prog 27 #[.slice A n c] w fun r w' => r = .returned (.tuple #[.pointer none, .int .i64 a, .int .i64 e]) ∧ Below w.heap.size w w'
  len : ∀ w p bs, T w p bs → Calls Try.prog 18 #[.pointer (some p)] w fun r w' => r = .returned (.int .i64 (bs.length : Int)) ∧ Below w.heap.size w w'
  box : ∀ w p bs (i : Int), T w p bs → Calls Try.prog 24 #[.pointer (some p), .int .i64 i] w fun r w' => r = .returned (boxT bs i).v ∧ Below w.heap.size w w'
  parent : ∀ w p bs (i : Int), T w p bs → Calls Try.prog 21 #[.pointer (some p), .int .i64 i] w fun r w' => r = .returned (.int .i64 (parT bs i)) ∧ Below w.heap.size w w'
  en : ∀ w p bs (i : Int), T w p bs → Calls Try.prog 22 #[.pointer (some p), .int .i64 i] w fun r w' => r = .returned (.int .i64 (enT bs i)) ∧ Below w.heap.size w w'
  ctx : ∀ w p bs (i : Int), T w p bs → Calls Try.prog 20 #[.pointer (some p), .int .i64 i] w fun r w' => r = .returned (.int .i64 (ctxT bs i)) ∧ Below w.heap.size w w'
  kids : ∀ w p bs (i : Int), T w p bs → Calls Try.prog 30 #[.pointer (some p), .int .i64 i] w fun r w' => ∃ u, r = .returned u ∧ GivesN w.heap.size (kidsT bs i) w' u ∧ Below w.heap.size w w'
  opens : ∀ w p bs, T w p bs → Calls Try.prog 19 #[.pointer (some p)] w fun r w' => ∃ u, r = .returned u ∧ GivesN w.heap.size (opensT bs) w' u ∧ Below w.heap.size w w'

theorem TreeOk.kidsL {T : World → Addr → List Bx → Prop} (hT : TreeOk T) (w : World) (p : Addr) (bs : List Bx) (i : Int) (h : T w p bs) : Calls Try.prog 30 #[.pointer (some p), .int .i64 i] w fun r w' => ∃ u, r = .returned u ∧ GivesL (kidsT bs i) w' u ∧ Below w.heap.size w w' := by
  refine (hT.kids w p bs i h).mono ?_
  rintro r w' ⟨u, e, ⟨A, c, e2, h1, -⟩, hb⟩
  exact ⟨u, e, ⟨A, c, e2, h1⟩, hb⟩

theorem TreeOk.opensL {T : World → Addr → List Bx → Prop} (hT : TreeOk T) (w : World) (p : Addr) (bs : List Bx) (h : T w p bs) : Calls Try.prog 19 #[.pointer (some p)] w fun r w' => ∃ u, r = .returned u ∧ GivesL (opensT bs) w' u ∧ Below w.heap.size w w' := by
  refine (hT.opens w p bs h).mono ?_
  rintro r w' ⟨u, e, ⟨A, c, e2, h1, -⟩, hb⟩
  exact ⟨u, e, ⟨A, c, e2, h1⟩, hb⟩

/-- What a list's Check answers is right: no error just if it's fine. -/
theorem chkF_fine (bs : List Bx) : ∀ f i, (∀ j, i ≤ j → j < i + f → badAt bs j = 0) → chkF bs f i = (-1, 0)
  | 0, _, _ => rfl
  | f + 1, i, h => by
    rw [chkF, if_pos (h i (Nat.le_refl _) (by omega))]
    exact chkF_fine bs f (i + 1) (fun j a b => h j (by omega) (by omega))

theorem chkF_ok (bs : List Bx) : ∀ f i a, chkF bs f i = (a, 0) → a = -1 ∧ ∀ j, i ≤ j → j < i + f → badAt bs j = 0
  | 0, i, a, h => by
    rw [chkF] at h
    injection h with h1 h2
    exact ⟨h1.symm, fun j x y => by omega⟩
  | f + 1, i, a, h => by
    rw [chkF] at h
    split at h
    · rename_i hb
      obtain ⟨h1, h2⟩ := chkF_ok bs f (i + 1) a h
      refine ⟨h1, fun j x y => ?_⟩
      by_cases e : j = i
      · subst e; exact hb
      · exact h2 j (by omega) (by omega)
    · rename_i hb
      injection h with h1 h2
      exact absurd h2 hb

theorem chk_fine {bs : List Bx} {n : Nat} (hn : n = bs.length) (h0 : 0 < n) (h : Fine bs n) : chk bs = (-1, 0) := by
  unfold chk
  rw [if_neg (by omega), ← hn]
  exact chkF_fine bs n 0 (fun j _ hj => h j (by omega))

theorem chk_ok {bs : List Bx} {n : Nat} {a : Int} (hn : n = bs.length) (h : chk bs = (a, 0)) : a = -1 ∧ 0 < n ∧ Fine bs n := by
  unfold chk at h
  split at h
  · injection h with h1 h2
    exact absurd h2 (by decide)
  · rename_i h0
    obtain ⟨h1, h2⟩ := chkF_ok bs bs.length 0 a h
    exact ⟨h1, by omega, fun j hj => h2 j (by omega) (by omega)⟩

section
variable {T : World → Addr → List Bx → Prop}

theorem oneB_boxes (w : World) (b : Bx) (t : TypeId) : Boxes (w.alloc (.cells (cellsOfB b).toArray t)) (w.alloc (.cells (cellsOfB b).toArray t)).heap.size (some ⟨w.heap.size, 0, none⟩) [b] := by
  have hm : MineB t (w.alloc (.cells (cellsOfB b).toArray t)) 0 (some ⟨w.heap.size, 0, none⟩) 1 1 [b] := by
    have := World.ownsRow_lit (e := t) (size := 14) (base := 0) w (cellsOfB b).toArray 1 (Nat.zero_le _) (by unfold maxLen; omega) rfl
    simpa [MineB] using this
  exact hm.boxes

theorem okB_zero (k : Int) (hk : (Lit.int .i64 k).wf = true) : OkB ⟨0, k, 0, 0, 0, 0, 0, 0, 0, 0, 0, 0, 0, 0⟩ := by
  intro x hx
  simp only [List.mem_cons, List.not_mem_nil, or_false] at hx
  rcases hx with h | h | h | h | h | h | h | h | h | h | h | h | h | h <;> subst h <;> first | exact hk | decide

set_option maxRecDepth 100000 in
set_option maxHeartbeats 1000000 in
theorem begin_some (hT : TreeOk T) (A : Option Addr) (n c : Nat) (bs : List Bx) (w : World) (hn : n = bs.length) (hlen : n ≤ 1000) (h0 : 0 < n) (hx : Boxes w w.heap.size A bs) (hb : ∀ b ∈ bs, OkB b) (hf : Fine bs n) :
    Calls Try.prog 26 #[.slice A n c] w fun r w' => (∃ p, r = .returned (.pointer (some p)) ∧ T w' p bs) ∧ Below w.heap.size w w' := by
  have HX := Lib.hid hx
  have HN := Lib.hid hn
  have HB := Lib.hid hb
  have HF := Lib.hid hf
  clear hx hn hb hf
  go_enter Try.func26, Try.ntmps26
  go_wp2_with fail
  refine (ofs_any A n c bs w HN.out (by omega) HX.out).mono ?_; rintro e w1 ⟨⟨A1, c1, rfl, h1⟩, k1⟩
  have K1 := Lib.hid k1
  have HM := Lib.hid h1
  clear k1 h1
  go_wp2_with fail
  refine (hT.yes A1 n c1 bs w1 HN.out hlen h0 HM.out.boxes HB.out HF.out).mono ?_; rintro e w2 ⟨⟨p, rfl, ht⟩, k2⟩
  have K2 := Lib.hid (thru K1.out k2)
  have HT2 := Lib.hid ht
  clear k2 ht
  go_wp2_with fail
  go_ret
  exact ⟨⟨p, rfl, HT2.out⟩, K2.out⟩

set_option maxRecDepth 100000 in
set_option maxHeartbeats 1000000 in
theorem begin_none (hT : TreeOk T) (A : Option Addr) (n c : Nat) (bs : List Bx) (w : World) (a e : Int) (hn : n = bs.length) (hlen : n ≤ 1000) (hx : Boxes w w.heap.size A bs) (hb : ∀ b ∈ bs, OkB b) (hc : chk bs = (a, e)) (he : e ≠ 0) :
    Calls Try.prog 26 #[.slice A n c] w fun r w' => r = .returned (.pointer none) ∧ Below w.heap.size w w' := by
  have HX := Lib.hid hx
  have HN := Lib.hid hn
  have HB := Lib.hid hb
  have HC := Lib.hid hc
  clear hx hn hb hc
  have he' : (e == 0) = false := by simp [he]
  go_enter Try.func26, Try.ntmps26
  go_wp2_with fail
  refine (ofs_any A n c bs w HN.out (by omega) HX.out).mono ?_; rintro r w1 ⟨⟨A1, c1, rfl, h1⟩, k1⟩
  have K1 := Lib.hid k1
  have HM := Lib.hid h1
  clear k1 h1
  go_wp2_with fail
  refine (hT.no A1 n c1 bs w1 a e HN.out hlen HM.out.boxes HB.out HC.out he).mono ?_; rintro r w2 ⟨rfl, k2⟩
  have K2 := Lib.hid (thru K1.out k2)
  clear k2
  go_wp2_with fail
  go_ret
  exact ⟨rfl, K2.out⟩

end

end Go.Proofs.Ytflncnfagoekcaa.Tree

/-! The contracts of the document's walk, All and Context. -/
namespace Go.Proofs.Ytflncnfagoekcaa.Walk
open Go.RowKit Go.Sort Go.Proofs.Ytflncnfagoekcaa.Record Go.Proofs.Ytflncnfagoekcaa.Script Go.Proofs.Ytflncnfagoekcaa.Tree Go.Proofs.Ytflncnfagoekcaa.More

def encEv : Enc Ev := ⟨2, fun x => [.int .i64 x.a, .bool x.l], fun _ => rfl, fun x u h => by
  simp only [List.mem_cons, List.not_mem_nil, or_false] at h
  rcases h with h | h <;> (subst h; rfl), by omega⟩

theorem infoEv : InfoE encEv 33 26 16 :=
  ⟨Try.underlying26, .agg #[.int .i64 0, .bool false], rfl, by kernel_rfl⟩

set_option maxHeartbeats 1000000 in
theorem refin_any (A : Option Addr) (n c : Nat) (bs : List Bx) (i : Nat) (wh : Bool) (w : World) (hn : n = bs.length) (hi : i < n) (hx : Boxes w w.heap.size A bs) (v : Bool) (hv : (wh || !oOf bs i) = v) :
    Calls Try.prog 47 #[.slice A n c, .int .i64 (i : Int), .bool wh] w fun e w' => e = .returned (.bool v) ∧ Below w.heap.size w w' := by
  obtain ⟨ad, rfl, hab, hcx⟩ := hx i (by rw [← hn]; exact hi)
  obtain ⟨y, hy⟩ : ∃ y, bs.getD i noB = y := ⟨_, rfl⟩
  rw [hy] at hcx
  have ho : oOf bs i = openB y.k := by unfold oOf; rw [hy]
  rw [ho] at hv
  obtain ⟨c0, c1, c2, c3, c4, c5, c6, c7, c8, c9, c10, c11, c12, c13⟩ := hcx
  have hin : (i : Int) < (n : Int) := by omega
  have hi0 : ¬ (i : Int) < 0 := by omega
  have HR := Lib.hid (refopen_any y w)
  obtain ⟨o, hov⟩ : ∃ o, openB y.k = o := ⟨_, rfl⟩
  rw [hov] at HR hv
  clear hy ho hov
  go_enter Try.func47, Try.ntmps47
  cases wh
  · go_wp2_with (first | (go_at_call 32; refine HR.out.mono ?_; rintro e w1 ⟨rfl, k1⟩))
    go_ret
    exact ⟨by rw [← hv]; cases o <;> rfl, k1⟩
  · go_wp2_with fail
    go_ret
    exact ⟨by rw [← hv]; rfl, Below.refl _ _⟩

/-- The walk has told xs; what is left is the walk from j on. -/
def Gone (d : Nat → Int) (o : Nat → Bool) (n : Nat) (wh : Bool) (i tz : Nat) (xs : List Ev) (j : Nat) : Prop := xs ++ wlk d o n wh j tz = wlk d o n wh i tz

theorem Gone.step {d : Nat → Int} {o : Nat → Bool} {n : Nat} {wh : Bool} {i tz : Nat} {xs : List Ev} {j : Nat} (h : Gone d o n wh i tz xs j) (hj : j < tz) (hn : j < n) :
    Gone d o n wh i tz (xs ++ [⟨(j : Int), false⟩] ++ (if wh || !o j then wlk d o n wh (j + 1) (en d n j) else []) ++ [⟨(j : Int), true⟩]) (en d n j) := by
  unfold Gone at h ⊢
  rw [← h, wlk_next d o n wh hj hn]
  simp

theorem Gone.le {d : Nat → Int} {o : Nat → Bool} {n : Nat} {wh : Bool} {i tz : Nat} {xs : List Ev} {j : Nat} (h : Gone d o n wh i tz xs j) : xs.length ≤ (wlk d o n wh i tz).length := by
  unfold Gone at h
  rw [← h, List.length_append]
  omega

theorem Gone.all {d : Nat → Int} {o : Nat → Bool} {n : Nat} {wh : Bool} {i tz : Nat} {xs : List Ev} {j : Nat} (h : Gone d o n wh i tz xs j) (hj : tz ≤ j) : xs = wlk d o n wh i tz := by
  unfold Gone at h
  rw [wlk_end d o n wh hj, List.append_nil] at h
  exact h

set_option maxRecDepth 100000 in
set_option maxHeartbeats 2000000 in
theorem refwalk_m (A : Option Addr) (n c : Nat) (bs : List Bx) (wh : Bool) (hn : n = bs.length) (hlen : n ≤ 1000) : ∀ m (i tz : Nat) (w : World), n - i < m → i ≤ n → Nested (dOf bs) n i tz → Boxes w w.heap.size A bs →
    Calls Try.prog 28 #[.slice A n c, .int .i64 (i : Int), .int .i64 (tz : Int), .bool wh] w fun e w' =>
      (∃ A' c', e = .returned (.slice A' (wlk (dOf bs) (oOf bs) n wh i tz).length c') ∧ MineE encEv 33 w' w.heap.size A' (wlk (dOf bs) (oOf bs) n wh i tz).length c' (wlk (dOf bs) (oOf bs) n wh i tz)) ∧ Below w.heap.size w w'
  | 0, _, _, _, hm, _, _, _ => by omega
  | m + 1, i, tz, w, hm, hi, hp, hx => by
    have HX := Lib.hid hx
    have HN := Lib.hid hn
    have HP := Lib.hid hp
    have hto := hp.1
    have HL := Lib.hid (wlk_len (dOf bs) (oOf bs) n wh (n + 1) i tz (by omega) hp)
    have IH : Hid (∀ (i tz : Nat) (w : World), n - i < m → i ≤ n → Nested (dOf bs) n i tz → Boxes w w.heap.size A bs →
      Calls Try.prog 28 #[.slice A n c, .int .i64 (i : Int), .int .i64 (tz : Int), .bool wh] w fun e w' =>
        (∃ A' c', e = .returned (.slice A' (wlk (dOf bs) (oOf bs) n wh i tz).length c') ∧ MineE encEv 33 w' w.heap.size A' (wlk (dOf bs) (oOf bs) n wh i tz).length c' (wlk (dOf bs) (oOf bs) n wh i tz)) ∧ Below w.heap.size w w') :=
      Lib.hid (refwalk_m A n c bs wh hn hlen m)
    obtain ⟨ev, hev⟩ : ∃ ev, wlk (dOf bs) (oOf bs) n wh i tz = ev := ⟨_, rfl⟩
    rw [hev] at HL ⊢
    have HEV := Lib.hid hev
    clear hx hn hp hev
    go_enter Try.func28, Try.ntmps28
    go_wp2_with fail
    go_loopw [9, 10] (fun s t wr => ∃ j : Nat, ∃ A' : Option Addr, ∃ l c' : Nat, ∃ xs : List Ev, i ≤ j ∧ j ≤ n ∧ t = .int .i64 (j : Int) ∧ s = .slice A' l c' ∧ Hid (Gone (dOf bs) (oOf bs) n wh i tz xs j ∧ MineE encEv 33 wr w.heap.size A' l c' xs ∧ Below w.heap.size w wr)) (fun _ t _ => n - (intOf t).toNat)
    case atStart => exact ⟨i, _, 0, 0, [], Nat.le_refl _, hi, rfl, rfl, Lib.hid ⟨rfl, emptyE_mine encEv _ _ _ (Nat.le_refl _), ba1 _ _⟩⟩
    case round =>
      obtain ⟨j, A', l, c', xs, hj1, hj2, rfl, rfl, H⟩ := hrel
      have hgl := H.out.1.le
      have hll := H.out.2.1.len
      rw [HEV.out] at hgl
      have hL := HL.out
      by_cases hlt : j < tz
      · have hjn : j < n := by omega
        obtain ⟨e1, e2, -, -⟩ := en_spec (dOf bs) n j hjn
        have HE := Lib.hid (refend_any A n c bs j wr HN.out (by omega) hjn (HX.out.thru H.out.2.2))
        obtain ⟨q, hq⟩ : ∃ q, en (dOf bs) n j = q := ⟨_, rfl⟩
        have HG := Lib.hid (H.out.1.step hlt hjn)
        have HI := Lib.hid (nested_in (dOf bs) n j hjn)
        rw [hq] at HE HG HI e1 e2
        have hnl := wlk_len (dOf bs) (oOf bs) n wh (n + 1) (j + 1) q (by omega) HI.out
        obtain ⟨v, hv⟩ : ∃ v, (wh || !oOf bs j) = v := ⟨_, rfl⟩
        rw [hv] at HG
        have HV := Lib.hid hv
        have hjt : (j : Int) < (tz : Int) := by omega
        have hwj : IntKind.i64.wrap ((j : Int) + 1) = ((j + 1 : Nat) : Int) := by rw [IntWalk.i64_in _ (by omega)]; omega
        clear hq hv
        go_upto_region 5 with (first | (go_at_call 33; refine HE.out.mono ?_; rintro e w1 ⟨rfl, k1⟩))
        have HM1 := Lib.hid (H.out.2.1.below k1)
        have K1 := Lib.hid (thru H.out.2.2 k1)
        clear k1 HE
        go_upto_region 6 with (first
          | (at_builtin; refine wpList_append_E (by omega) infoEv _ rfl (.tmp 20) (.tmp 23) rfl w.heap.size A' l c' xs rfl (HM1.out.alloc _) (some ⟨w1.heap.size, 0, none⟩) 1 1 [⟨(j : Int), false⟩] rfl (oneE_src encEv w1 ⟨(j : Int), false⟩ 33) (by omega) (by have := K1.out.size; simp; omega) ?_; intro A1 c1 W1 h1; have hb1 := h1.below (HM1.out.alloc _) (K1.out.alloc K1.out.size _) (Nat.le_refl _) (by have := K1.out.size; simp; omega); have HM2 := Lib.hid h1.1; have K2 := Lib.hid hb1; clear h1 hb1))
        clear HM1 K1
        have HIN := Lib.hid (refin_any A n c bs j wh W1 HN.out hjn (HX.out.thru K2.out) v HV.out)
        cases v
        · go_upto_region 8 with (first | (go_at_call 47; refine HIN.out.mono ?_; rintro e w2 ⟨rfl, k2⟩))
          have HM3 := Lib.hid (HM2.out.below k2)
          have K3 := Lib.hid (thru K2.out k2)
          clear k2 HIN HM2 K2
          go_wp2_with (first
            | (at_builtin; refine wpList_append_E (by omega) infoEv _ rfl (.tmp 37) (.tmp 40) rfl w.heap.size A1 (l + 1) c1 (xs ++ [⟨(j : Int), false⟩]) rfl (HM3.out.alloc _) (some ⟨w2.heap.size, 0, none⟩) 1 1 [⟨(j : Int), true⟩] rfl (oneE_src encEv w2 ⟨(j : Int), true⟩ 33) (by omega) (by have := K3.out.size; simp; omega) ?_; intro A4 c4 W4 h4; have hb4 := h4.below (HM3.out.alloc _) (K3.out.alloc K3.out.size _) (Nat.le_refl _) (by have := K3.out.size; simp; omega); have HM4 := Lib.hid h4.1; have K4 := Lib.hid hb4; clear h4 hb4))
          go_roundw
          case rel => exact ⟨q, A4, l + 1 + 1, c4, _, by omega, by omega, rfl, rfl, Lib.hid ⟨by simpa using HG.out, HM4.out, K4.out⟩⟩
          case measure => simp [intOf]; omega
        · go_upto_region 7 with (first | (go_at_call 47; refine HIN.out.mono ?_; rintro e w2 ⟨rfl, k2⟩))
          have HM3 := Lib.hid (HM2.out.below k2)
          have K3 := Lib.hid (thru K2.out k2)
          clear k2 HIN HM2 K2
          have HRC := Lib.hid (IH.out (j + 1) q w2 (by omega) (by omega) HI.out (HX.out.thru K3.out))
          obtain ⟨inn, hinn⟩ : ∃ inn, wlk (dOf bs) (oOf bs) n wh (j + 1) q = inn := ⟨_, rfl⟩
          rw [hinn] at HRC HG hnl
          clear hinn
          go_upto_region 8 with (first
            | (go_at_call 28; refine HRC.out.mono ?_; rintro e w3 ⟨⟨A3, c3, rfl, h3⟩, k3⟩; have HM4 := Lib.hid (HM3.out.below k3); have K4 := Lib.hid (thru K3.out k3); have HS3 := Lib.hid h3.src; clear k3 h3)
            | (at_builtin; refine wpList_append_E (by omega) infoEv _ rfl (.tmp 29) (.tmp 35) rfl w.heap.size A1 (l + 1) c1 (xs ++ [⟨(j : Int), false⟩]) rfl HM4.out A3 inn.length c3 inn rfl HS3.out (by omega) K4.out.size ?_; intro A5 c5 W5 h5; have hb5 := h5.below HM4.out K4.out (Nat.le_refl _) K4.out.size; have HM5 := Lib.hid h5.1; have K5 := Lib.hid hb5; clear h5 hb5))
          clear HM3 K3 HM4 K4 HS3 HRC
          go_wp2_with (first
            | (at_builtin; refine wpList_append_E (by omega) infoEv _ rfl (.tmp 37) (.tmp 40) rfl w.heap.size A5 (l + 1 + inn.length) c5 (xs ++ [⟨(j : Int), false⟩] ++ inn) rfl (HM5.out.alloc _) (some ⟨W5.heap.size, 0, none⟩) 1 1 [⟨(j : Int), true⟩] rfl (oneE_src encEv W5 ⟨(j : Int), true⟩ 33) (by omega) (by have := K5.out.size; simp; omega) ?_; intro A6 c6 W6 h6; have hb6 := h6.below (HM5.out.alloc _) (K5.out.alloc K5.out.size _) (Nat.le_refl _) (by have := K5.out.size; simp; omega); have HM6 := Lib.hid h6.1; have K6 := Lib.hid hb6; clear h6 hb6))
          go_roundw
          case rel => exact ⟨q, A6, l + 1 + inn.length + 1, c6, _, by omega, by omega, rfl, rfl, Lib.hid ⟨by simpa using HG.out, HM6.out, K6.out⟩⟩
          case measure => simp [intOf]; omega
      · have hx := H.out.1.all (by omega)
        rw [HEV.out] at hx
        have hjt : ¬ (j : Int) < (tz : Int) := by omega
        have HM := H.out.2.1
        rw [hx] at HM hll
        subst hll
        go_wp2_with fail
        go_ret
        exact ⟨⟨A', c', rfl, HM⟩, H.out.2.2⟩

theorem refwalk_any (A : Option Addr) (n c : Nat) (bs : List Bx) (wh : Bool) (i tz : Nat) (w : World) (hn : n = bs.length) (hlen : n ≤ 1000) (hi : i ≤ n) (hp : Nested (dOf bs) n i tz) (hx : Boxes w w.heap.size A bs) :
    Calls Try.prog 28 #[.slice A n c, .int .i64 (i : Int), .int .i64 (tz : Int), .bool wh] w fun e w' =>
      (∃ A' c', e = .returned (.slice A' (wlk (dOf bs) (oOf bs) n wh i tz).length c') ∧ MineE encEv 33 w' w.heap.size A' (wlk (dOf bs) (oOf bs) n wh i tz).length c' (wlk (dOf bs) (oOf bs) n wh i tz)) ∧ Below w.heap.size w w' :=
  refwalk_m A n c bs wh hn hlen (n + 1) i tz w (by omega) hi hp hx

end Go.Proofs.Ytflncnfagoekcaa.Walk

/-! The contracts of the document's Context and Members, and of the law's begin. -/
namespace Go.Proofs.Ytflncnfagoekcaa.Walk
open Go.RowKit Go.Sort Go.Proofs.Ytflncnfagoekcaa.Record Go.Proofs.Ytflncnfagoekcaa.Script Go.Proofs.Ytflncnfagoekcaa.Tree Go.Proofs.Ytflncnfagoekcaa.More

/-- The events of all boxes. -/
def evAll (bs : List Bx) : List Ev := wlk (dOf bs) (oOf bs) bs.length true 0 bs.length

/-- The events of a context's. -/
def evCtx (bs : List Bx) (i : Int) : List Ev := if hasT bs i ∧ oOf bs i.toNat = true then wlk (dOf bs) (oOf bs) bs.length false (i.toNat + 1) (en (dOf bs) bs.length i.toNat) else []

set_option maxHeartbeats 1000000 in
theorem refall_of (A : Option Addr) (n c : Nat) (w : World) (ev : List Ev)
    (h : Calls Try.prog 28 #[.slice A n c, .int .i64 0, .int .i64 (n : Int), .bool true] w fun e w' => (∃ A' c', e = .returned (.slice A' ev.length c') ∧ MineE encEv 33 w' w.heap.size A' ev.length c' ev) ∧ Below w.heap.size w w') :
    Calls Try.prog 11 #[.slice A n c] w fun e w' => (∃ A' c', e = .returned (.slice A' ev.length c') ∧ MineE encEv 33 w' w.heap.size A' ev.length c' ev) ∧ Below w.heap.size w w' := by
  have H := Lib.hid h
  clear h
  go_enter Try.func11, Try.ntmps11
  go_wp2_with (first | (go_at_call 28; refine H.out.mono ?_; rintro e w1 ⟨⟨A1, c1, rfl, h1⟩, k1⟩; have H1 := Lib.hid h1; clear h1))
  go_ret
  exact ⟨⟨A1, c1, rfl, H1.out⟩, k1⟩

theorem refall_any (A : Option Addr) (n c : Nat) (bs : List Bx) (w : World) (hn : n = bs.length) (hlen : n ≤ 1000) (hx : Boxes w w.heap.size A bs) :
    Calls Try.prog 11 #[.slice A n c] w fun e w' => (∃ A' c', e = .returned (.slice A' (evAll bs).length c') ∧ MineE encEv 33 w' w.heap.size A' (evAll bs).length c' (evAll bs)) ∧ Below w.heap.size w w' := by
  have h := refwalk_any A n c bs true 0 n w hn hlen (Nat.zero_le _) (nested_all _ _ _) hx
  have e : wlk (dOf bs) (oOf bs) n true 0 n = evAll bs := by unfold evAll; rw [← hn]
  have e0 : ((0 : Nat) : Int) = 0 := rfl
  rw [e, e0] at h
  exact refall_of A n c w _ h

theorem evCtx_no {bs : List Bx} {i : Int} (h : ¬ (hasT bs i ∧ oOf bs i.toNat = true)) : evCtx bs i = [] := by unfold evCtx; rw [if_neg h]

theorem evCtx_yes {bs : List Bx} {i : Nat} (h : i < bs.length) (ho : oOf bs i = true) : evCtx bs (i : Int) = wlk (dOf bs) (oOf bs) bs.length false (i + 1) (en (dOf bs) bs.length i) := by
  unfold evCtx
  rw [if_pos ⟨hasT_nat h, by simpa using ho⟩, Int.toNat_natCast]

set_option maxRecDepth 100000 in
set_option maxHeartbeats 1000000 in
theorem refctxs_out (A : Option Addr) (n c : Nat) (bs : List Bx) (i : Int) (w : World) (hn : n = bs.length) (hi : ¬ hasT bs i) :
    Calls Try.prog 13 #[.slice A n c, .int .i64 i] w fun e w' => e = .returned (.slice none 0 0) ∧ Below w.heap.size w w' := by
  have hi' : i < 0 ∨ (n : Int) ≤ i := by
    by_cases h : i < 0
    · exact .inl h
    · refine .inr ?_
      rcases Int.lt_or_le i (n : Int) with h2 | h2
      · exact absurd ⟨by omega, by rw [← hn]; exact h2⟩ hi
      · exact h2
  clear hi
  go_enter Try.func13, Try.ntmps13
  by_cases h : i < 0
  · go_wp2_with fail
    go_ret
    exact ⟨rfl, Below.refl _ _⟩
  · have h2 : (n : Int) ≤ i := by omega
    go_wp2_with fail
    go_ret
    exact ⟨rfl, Below.refl _ _⟩

set_option maxRecDepth 100000 in
set_option maxHeartbeats 1000000 in
theorem refctxs_in (A : Option Addr) (n c : Nat) (bs : List Bx) (i : Nat) (w : World) (hn : n = bs.length) (hlen : n ≤ 1000) (hi : i < n) (hx : Boxes w w.heap.size A bs) :
    Calls Try.prog 13 #[.slice A n c, .int .i64 (i : Int)] w fun e w' => (∃ A' c', e = .returned (.slice A' (evCtx bs (i : Int)).length c') ∧ MineE encEv 33 w' w.heap.size A' (evCtx bs (i : Int)).length c' (evCtx bs (i : Int))) ∧ Below w.heap.size w w' := by
  have HX := Lib.hid hx
  have HN := Lib.hid hn
  obtain ⟨ad, hA, hab, hcx⟩ := hx i (by rw [← hn]; exact hi)
  subst hA
  obtain ⟨y, hy⟩ : ∃ y, bs.getD i noB = y := ⟨_, rfl⟩
  rw [hy] at hcx
  have ho : oOf bs i = openB y.k := by unfold oOf; rw [hy]
  obtain ⟨c0, c1, c2, c3, c4, c5, c6, c7, c8, c9, c10, c11, c12, c13⟩ := hcx
  have hin : (i : Int) < (n : Int) := by omega
  have hi0 : ¬ (i : Int) < 0 := by omega
  have HR := Lib.hid (fun w => refopen_any y w)
  obtain ⟨o, hov⟩ : ∃ o, openB y.k = o := ⟨_, rfl⟩
  rw [hov] at HR ho
  have HO := Lib.hid ho
  have hwi : IntKind.i64.wrap ((i : Int) + 1) = ((i + 1 : Nat) : Int) := by rw [IntWalk.i64_in _ (by omega)]; omega
  obtain ⟨e1, e2, -, -⟩ := en_spec (dOf bs) n i hi
  clear hy ho hov hx hn hab
  go_enter Try.func13, Try.ntmps13
  cases o
  · have he : evCtx bs (i : Int) = [] := evCtx_no (fun h => by have h2 := h.2; rw [Int.toNat_natCast, HO.out] at h2; cases h2)
    rw [he]
    go_wp2_with (first | (go_at_call 32; refine (HR.out _).mono ?_; rintro e w1 ⟨rfl, k1⟩))
    go_ret
    exact ⟨⟨none, 0, rfl, noneE_mine _ _ _ _⟩, k1⟩
  · have hN := HN.out
    have he : evCtx bs (i : Int) = wlk (dOf bs) (oOf bs) n false (i + 1) (en (dOf bs) n i) := by rw [hN]; exact evCtx_yes (by rw [← hN]; exact hi) HO.out
    rw [he]
    have HE := Lib.hid (fun w1 (k : Below w.heap.size w w1) => refend_any (some ad) n c bs i w1 HN.out (by omega) hi (HX.out.thru k))
    have HW := Lib.hid (fun w1 (k : Below w.heap.size w w1) => refwalk_any (some ad) n c bs false (i + 1) (en (dOf bs) n i) w1 HN.out hlen (by omega) (nested_in _ _ _ hi) (HX.out.thru k))
    clear hN he
    obtain ⟨q, hq⟩ : ∃ q, en (dOf bs) n i = q := ⟨_, rfl⟩
    rw [hq] at HE HW e1 e2 ⊢
    clear hq
    obtain ⟨ev, hev⟩ : ∃ ev, wlk (dOf bs) (oOf bs) n false (i + 1) q = ev := ⟨_, rfl⟩
    rw [hev] at HW ⊢
    clear hev
    go_upto_region 3 with (first | (go_at_call 32; refine (HR.out _).mono ?_; rintro e w1 ⟨rfl, k1⟩))
    have K1 := Lib.hid k1
    clear c0 c1 c2 c3 c4 c5 c6 c7 c8 c9 c10 c11 c12 c13 k1
    go_wp2_with (first
      | (go_at_call 33; refine (HE.out _ K1.out).mono ?_; rintro e w2 ⟨rfl, k2⟩; have K2 := Lib.hid (thru K1.out k2); clear k2)
      | (go_at_call 28; refine (HW.out _ K2.out).mono ?_; rintro e w3 ⟨⟨A3, c3, rfl, h3⟩, k3⟩; have H3 := Lib.hid h3; have K3 := Lib.hid (thru K2.out k3); clear h3 k3))
    go_ret
    exact ⟨⟨A3, c3, rfl, H3.out.mono K2.out.size⟩, K3.out⟩

theorem refctxs_any (A : Option Addr) (n c : Nat) (bs : List Bx) (i : Int) (w : World) (hn : n = bs.length) (hlen : n ≤ 1000) (hx : Boxes w w.heap.size A bs) :
    Calls Try.prog 13 #[.slice A n c, .int .i64 i] w fun e w' => (∃ A' c', e = .returned (.slice A' (evCtx bs i).length c') ∧ MineE encEv 33 w' w.heap.size A' (evCtx bs i).length c' (evCtx bs i)) ∧ Below w.heap.size w w' := by
  by_cases h : hasT bs i
  · obtain ⟨k, rfl⟩ : ∃ k : Nat, i = k := ⟨i.toNat, by have := h.1; omega⟩
    exact refctxs_in A n c bs k w hn hlen (by have := h.2; omega) hx
  · refine (refctxs_out A n c bs i w hn h).mono ?_
    rintro e w' ⟨rfl, k⟩
    rw [evCtx_no (fun x => h x.1)]
    exact ⟨⟨none, 0, rfl, noneE_mine _ _ _ _⟩, k⟩

/-- The places of a context's boxes, below m. -/
def memTo (bs : List Bx) (i m : Nat) : List Nat := (List.range m).filter fun k => decide (i < k) && decide (ctx (dOf bs) (oOf bs) k = i)

/-- .. all of them. -/
def memT (bs : List Bx) (i : Int) : List Int := if hasT bs i ∧ oOf bs i.toNat = true then (memTo bs i.toNat (en (dOf bs) bs.length i.toNat)).map Int.ofNat else []

theorem memT_no {bs : List Bx} {i : Int} (h : ¬ (hasT bs i ∧ oOf bs i.toNat = true)) : memT bs i = [] := by unfold memT; rw [if_neg h]

theorem memT_yes {bs : List Bx} {i : Nat} (h : i < bs.length) (ho : oOf bs i = true) : memT bs (i : Int) = (memTo bs i (en (dOf bs) bs.length i)).map Int.ofNat := by
  unfold memT
  rw [if_pos ⟨hasT_nat h, by simpa using ho⟩, Int.toNat_natCast]

theorem memTo_next (bs : List Bx) (i m : Nat) : memTo bs i (m + 1) = memTo bs i m ++ (if i < m ∧ ctx (dOf bs) (oOf bs) m = i then [m] else []) := by
  unfold memTo
  rw [List.range_succ, List.filter_append]
  congr 1
  by_cases h : i < m ∧ ctx (dOf bs) (oOf bs) m = i
  · rw [if_pos h]; simp [h.1, h.2]
  · rw [if_neg h]
    simp only [List.filter_cons, List.filter_nil]
    rw [if_neg]
    simp only [Bool.and_eq_true, decide_eq_true_eq]
    exact h

theorem memTo_start (bs : List Bx) (i : Nat) : memTo bs i (i + 1) = [] := by
  unfold memTo
  rw [List.filter_eq_nil_iff]
  intro c hc
  simp at hc
  simp; omega

end Go.Proofs.Ytflncnfagoekcaa.Walk
