/- Texts of this proof that follow each other, in one file. -/
import Derived.Test.YtfomhdhiibcdfaaGreatPart1
import Derived.Laws.OwnMore
import Derived.Test.YtfomhdhiibcdfaaGreatPart22
import Derived.Test.YtfomhdhiibcdfaaGreatPart14
import Derived.Lib.AppendZerosOnto
import Derived.Lib.Overlaps
import Derived.Laws.Externs
import Derived.Test.YtfomhdhiibcdfaaGreatPart2
import Derived.Shelf.Abstract
/-! Lists of one's own of whatever lies in several cells (structs of numbers): read, appended to, and turned in place. -/
namespace Go.Proofs.YtfomhdhiibcdfaaGreat.More
open Go.RowKit

/-- How the values of a kind lie in cells. -/
structure Enc (α : Type) where
  size : Nat
  cells : α → List Value
  len : ∀ a, (cells a).length = size
  one : ∀ a, ∀ u ∈ cells a, u.oneCell' = true
  pos : 0 < size

section
variable {α : Type} (E : Enc α)

theorem Enc.flat_len (xs : List α) : (xs.flatMap E.cells).length = xs.length * E.size := by
  induction xs with
  | nil => simp
  | cons x xs ih => simp only [List.flatMap_cons, List.length_append, E.len, ih, List.length_cons, Nat.add_mul, Nat.one_mul]; omega

theorem Enc.flat_at (xs : List α) : ∀ (k : Nat) (a : α), xs[k]? = some a → ∀ j, j < E.size → (xs.flatMap E.cells)[k * E.size + j]? = (E.cells a)[j]? := by
  induction xs with
  | nil => intro k a h; simp at h
  | cons x xs ih =>
    intro k a h j hj
    rw [List.flatMap_cons]
    cases k with
    | zero =>
      obtain rfl : x = a := by simpa using h
      rw [Nat.zero_mul, Nat.zero_add, List.getElem?_append_left (by rw [E.len]; exact hj)]
    | succ k =>
      have e : (k + 1) * E.size + j - E.size = k * E.size + j := by rw [Nat.add_mul, Nat.one_mul]; omega
      rw [List.getElem?_append_right (by rw [E.len, Nat.add_mul, Nat.one_mul]; omega), E.len, e]
      exact ih k a (by simpa using h) j hj

theorem Enc.flat_set (xs : List α) : ∀ (k : Nat) (a a' : α) (j : Nat) (u : Value), xs[k]? = some a → j < E.size → E.cells a' = (E.cells a).set j u → (xs.flatMap E.cells).set (k * E.size + j) u = (xs.set k a').flatMap E.cells := by
  induction xs with
  | nil => intro k a a' j u h; simp at h
  | cons x xs ih =>
    intro k a a' j u h hj hc
    cases k with
    | zero =>
      obtain rfl : x = a := by simpa using h
      rw [List.flatMap_cons, Nat.zero_mul, Nat.zero_add, List.set_append_left _ _ (by rw [E.len]; exact hj), List.set_cons_zero, List.flatMap_cons, hc]
    | succ k =>
      have e : (k + 1) * E.size + j - E.size = k * E.size + j := by rw [Nat.add_mul, Nat.one_mul]; omega
      rw [List.flatMap_cons, List.set_append_right _ _ (by rw [E.len, Nat.add_mul, Nat.one_mul]; omega), E.len, e, List.set_cons_succ, List.flatMap_cons]
      congr 1
      exact ih k a a' j u (by simpa using h) hj hc

theorem Enc.flat_cells (xs : List α) : ∀ u ∈ xs.flatMap E.cells, u.oneCell' = true := by
  intro u hu
  rw [List.mem_flatMap] at hu
  obtain ⟨a, _, h⟩ := hu
  exact E.one a u h

/-- A slice of one's own. -/
def MineE (T : TypeId) (w : World) (B : Nat) (A : Option Addr) (n c : Nat) (xs : List α) : Prop :=
  w.ownsRow B T E.size (.slice A n c) n (xs.flatMap E.cells)

theorem shapeE {T : TypeId} {w : World} {B : Nat} {s : Nat} {v : Value} {n : Nat} {xs : List Value} (h : w.ownsRow B T s v n xs) : ∃ A c, v = .slice A n c := by
  rcases h.2 with ⟨rfl, rfl⟩ | ⟨g, cap, cur, rfl, _⟩
  · exact ⟨none, 0, rfl⟩
  · exact ⟨_, _, rfl⟩

section
variable {E} {T : TypeId} {w w' : World} {B : Nat} {A : Option Addr} {n c : Nat} {xs : List α}

theorem MineE.len (h : MineE E T w B A n c xs) : xs.length = n := by
  have := h.1
  rw [E.flat_len] at this
  exact Nat.eq_of_mul_eq_mul_right E.pos this

theorem MineE.lt (h : MineE E T w B A n c xs) : ∀ k, blk A = some k → B ≤ k ∧ k < w.heap.size := by
  intro k hk
  exact World.ownsRow.lt h k (by rw [ownBlock_blk]; exact hk)

theorem MineE.mono {C : Nat} (h : MineE E T w B A n c xs) (hC : C ≤ B) : MineE E T w C A n c xs := by
  refine ⟨h.1, ?_⟩
  rcases h.2 with h | ⟨g, cap, cur, e, hb, r⟩
  · exact .inl h
  · exact .inr ⟨g, cap, cur, e, by omega, r⟩

theorem MineE.kept {row : Option Nat} (h : MineE E T w B A n c xs) (hg : w.grownBy w' row) (hne : ∀ k, blk A = some k → row ≠ some k) : MineE E T w' B A n c xs := by
  refine World.ownsRow.kept h hg ?_
  rw [ownBlock_blk]
  cases hb : blk A with
  | none => exact .inl rfl
  | some k => exact .inr fun e => hne k hb e.symm

theorem MineE.below (h : MineE E T w B A n c xs) (hb : Below w.heap.size w w') : MineE E T w' B A n c xs :=
  h.kept (grown_of_below hb) (fun k _ e => by cases e)

theorem MineE.alloc (h : MineE E T w B A n c xs) (o : Obj) : MineE E T (w.alloc o) B A n c xs := World.ownsRow.alloc h o
theorem MineE.drew (h : MineE E T w B A n c xs) : MineE E T w.drew B A n c xs := h

/-- Where a list lies that has something. -/
theorem MineE.form (h : MineE E T w B A n c xs) (hn : 0 < n) : ∃ g, A = some ⟨g, 0, none⟩ ∧ B ≤ g ∧ g < w.heap.size ∧ n ≤ c ∧ c ≤ maxLen := by
  rcases h.2 with ⟨_, h0⟩ | ⟨g, cap, cur, e, hb, hg, hc, hm, _⟩
  · omega
  · injection e with e1 e2 e3
    subst e1 e3
    exact ⟨g, rfl, hb, (Array.getElem?_eq_some_iff.1 hg).1, hc, hm⟩

theorem MineE.at {g : Nat} (h : MineE E T w B (some ⟨g, 0, none⟩) n c xs) (k : Nat) (a : α) (ha : xs[k]? = some a) (j : Nat) (hj : j < E.size) : w.cell? ⟨g, k * E.size + j, none⟩ = (E.cells a)[j]? := by
  have hl := h.len
  have hk := (List.getElem?_eq_some_iff.1 ha).1
  have h1 : k * E.size + j < n * E.size := by
    have h2 : (k + 1) * E.size ≤ n * E.size := Nat.mul_le_mul_right _ (by omega)
    rw [Nat.add_mul, Nat.one_mul] at h2
    omega
  rw [World.ownsRow.cellAt h _ h1, E.flat_at xs k a ha j hj]

theorem MineE.frozen {g : Nat} (h : MineE E T w B (some ⟨g, 0, none⟩) n c xs) (j : Nat) : w.frozen? ⟨g, j, none⟩ = false := World.ownsRow.frozenAt h j

/-- One cell of one of them is turned. -/
theorem MineE.stored {g : Nat} (h : MineE E T w B (some ⟨g, 0, none⟩) n c xs) (k : Nat) (a a' : α) (ha : xs[k]? = some a) (j : Nat) (hj : j < E.size) (u : Value) (hc : E.cells a' = (E.cells a).set j u) :
    MineE E T (w.setCell ⟨g, k * E.size + j, none⟩ u) B (some ⟨g, 0, none⟩) n c (xs.set k a') ∧ w.grownBy (w.setCell ⟨g, k * E.size + j, none⟩ u) (some g) := by
  obtain ⟨h1, h2⟩ := World.ownsRow.stored h (k * E.size + j) u
  refine ⟨?_, h2⟩
  unfold MineE
  rw [← E.flat_set xs k a a' j u ha hj hc]
  exact h1

end

/-- What is appended: m of them, of a slice, nil or not. -/
def SrcE (w : World) (A : Option Addr) (m c : Nat) (ys : List α) : Prop :=
  ys.length = m ∧ (A = none → c = 0) ∧ ∀ j u, (ys.flatMap E.cells)[j]? = some u → ∃ ad : Addr, A = some ad ∧ w.cell? (ad.add j) = some u

/-- What the model knows of a type. -/
def InfoE (T TS : TypeId) (bytes : Nat) : Prop :=
  Tryz.prog.underlying TS = some (.slice T) ∧ ∃ z : Value, z.cells.size = E.size ∧ (Tryz.prog.info? T).map (fun i => (i.zero, i.size, i.bytes)) = some (some z, E.size, bytes)

/-- What an append leaves. -/
def AppendedE (T : TypeId) (w : World) (B : Nat) (A : Option Addr) (n : Nat) (xs ys : List α) (m : Nat) (A' : Option Addr) (c' : Nat) (w' : World) : Prop :=
  MineE E T w' B A' (n + m) c' (xs ++ ys) ∧ w.grownBy w' (blk A) ∧ (blk A' = blk A ∨ blk A' = some w.heap.size)

theorem run_append_E {T TS : TypeId} {bytes : Nat} (hb2 : bytes ≤ 10000) (hT : InfoE E T TS bytes) (ty : TypeId) (w : World) (B : Nat) (A : Option Addr) (n c : Nat) (xs : List α) (hown : MineE E T w B A n c xs) (A2 : Option Addr) (m c2 : Nat) (ys : List α) (hs : SrcE E w A2 m c2 ys)
    (hlen : n + m ≤ 1000000) (hB : B ≤ w.heap.size) :
    ∃ A' c' w', (Builtin.append_ #[TS, TS] ty #[.slice A n c, .slice A2 m c2]).run Tryz.prog w = .ok (.slice A' (n + m) c') w' ∧ AppendedE E T w B A n xs ys m A' c' w' := by
  obtain ⟨hu, z, hzc, hinfo⟩ := hT
  obtain ⟨i0, hi0, hz0, hz1, hz2⟩ := info_parts hinfo
  obtain ⟨h1, h2, h3⟩ := hs
  cases A2 with
  | none =>
    have hm : m = 0 := by
      rcases Nat.eq_zero_or_pos m with h | h
      · exact h
      · cases ys with
        | nil => simp at h1; omega
        | cons y ys =>
          have hp := E.pos
          have hl := E.len y
          obtain ⟨ad, e, _⟩ := h3 0 ((E.cells y)[0]'(by omega)) (by rw [List.flatMap_cons, List.getElem?_append_left (by omega)]; simp)
          cases e
    subst hm
    have hy : ys = [] := List.eq_nil_of_length_eq_zero h1
    subst hy
    obtain rfl := h2 rfl
    exact ⟨A, c, w, run_append_owned_none (P := Tryz.prog) w B TS ty T i0 E.size hu hi0 _ n _ hown, by simpa [MineE] using hown, World.grownBy.refl w _, .inl rfl⟩
  | some ad =>
    have hcells : ∀ j u, (ys.flatMap E.cells)[j]? = some u → w.cell? (ad.add j) = some u := by
      intro j u hu
      obtain ⟨ad', e, hc⟩ := h3 j u hu
      obtain rfl := Option.some.inj e
      exact hc
    have hbn : (n + m) * bytes ≤ 1000000 * 10000 := Nat.mul_le_mul hlen hb2
    obtain ⟨v', w', hrun, g2, g3, _, g5⟩ := run_append_own_at (P := Tryz.prog) w B TS ty T i0 z E.size bytes hu hi0 hz0 hz1 hz2 hzc E.pos _ n _ hown ad m c2 _ (by rw [E.flat_len, h1]) hcells
      (E.flat_cells ys) (by simp only [maxLen]; omega) (by omega) hB
    obtain ⟨A', c', rfl⟩ := shapeE g2
    refine ⟨A', c', w', hrun, ?_, ?_, ?_⟩
    · unfold MineE; rw [List.flatMap_append]; exact g2
    · rw [ownBlock_blk] at g3; exact g3
    · rw [ownBlock_blk, ownBlock_blk] at g5; exact g5

theorem wpList_append_E {E : Enc α} {T TS : TypeId} {bytes : Nat} (hb2 : bytes ≤ 10000) (hT : InfoE E T TS bytes) (w : World) {ops : Array Oper} {rest : List Oper} {o : Oper} {a : Act} {Q : Exit → Act → World → Prop} (hgd : o.guard = none) (s x : Operand)
    (ho : o.op = .call { callee := .builtin .append, args := #[s, x], argTypes := #[TS, TS] })
    (B : Nat) (A : Option Addr) (n c : Nat) (xs : List α) (hs : a.eval s = .slice A n c) (hown : MineE E T w B A n c xs) (A2 : Option Addr) (m c2 : Nat) (ys : List α) (hx : a.eval x = .slice A2 m c2) (hsrc : SrcE E w A2 m c2 ys)
    (hlen : n + m ≤ 1000000) (hB : B ≤ w.heap.size)
    (h : ∀ A' c' w', AppendedE E T w B A n xs ys m A' c' w' → wpList Tryz.prog ops Q rest (a.put o.dst (.slice A' (n + m) c')) w') : wpList Tryz.prog ops Q (o :: rest) a w := by
  refine wpList_plain hgd fun _ hK => ?_
  obtain ⟨A', c', w', hr, h2⟩ := run_append_E E hb2 hT o.type w B A n c xs hown A2 m c2 ys hsrc hlen hB
  unfold Oper.wp execOp
  simp only [ho, resolve, invoke, builtin, Sem.run_bind, Sem.run_pure, Result.andThen_ok, List.map_toArray, List.map_cons, List.map_nil, hs, hx, hr]
  exact hK _ _ (h A' c' w' h2)

/-- What a block of cells gives to be appended. -/
theorem srcE_of (w : World) (a : α) (T : TypeId) (g : Nat) (h : w.heap[g]? = some (.cells (E.cells a).toArray T)) : SrcE E w (some ⟨g, 0, none⟩) 1 1 [a] := by
  refine ⟨rfl, fun e => (by cases e), fun j u hu => ⟨_, rfl, ?_⟩⟩
  have hu' : (E.cells a)[j]? = some u := by simpa using hu
  have hadd : (⟨g, 0, none⟩ : Addr).add j = ⟨g, j, none⟩ := by unfold Addr.add; split <;> simp_all
  rw [hadd, cell_of_row w g j _ _ _ h]
  simpa using hu'

theorem MineE.src {E : Enc α} {T : TypeId} {w : World} {B : Nat} {A : Option Addr} {n c : Nat} {xs : List α} (h : MineE E T w B A n c xs) : SrcE E w A n c xs := by
  refine ⟨h.len, fun e => ?_, fun j u hu => ?_⟩
  · subst e
    rcases h.2 with ⟨e, _⟩ | ⟨g', cap', cur, e, _⟩
    · injection e
    · simp at e
  · have hj := (List.getElem?_eq_some_iff.1 hu).1
    rw [E.flat_len, h.len] at hj
    have hn : 0 < n := by
      rcases Nat.eq_zero_or_pos n with e | e
      · subst e; simp at hj
      · exact e
    obtain ⟨g, rfl, _⟩ := h.form hn
    exact ⟨_, rfl, World.ownsRow.cells h (g := g) rfl j u hu⟩

theorem emptyE_mine (T : TypeId) (w : World) (B : Nat) (hB : B ≤ w.heap.size) : MineE E T (w.alloc (.cells #[] T)) B (some ⟨w.heap.size, 0, none⟩) 0 0 [] :=
  World.ownsRow_lit w #[] 0 hB (by unfold maxLen; omega) (by simp)

theorem oneE_src (w : World) (a : α) (T : TypeId) : SrcE E (w.alloc (.cells (E.cells a).toArray T)) (some ⟨w.heap.size, 0, none⟩) 1 1 [a] := by
  have hm : (w.alloc (.cells (E.cells a).toArray T)).ownsRow 0 T E.size (.slice (some ⟨w.heap.size, 0, none⟩) 1 1) 1 (E.cells a) := by
    have := World.ownsRow_lit (e := T) (size := E.size) (base := 0) w (E.cells a).toArray 1 (Nat.zero_le _) (by unfold maxLen; omega) (by simp [E.len])
    simpa using this
  refine ⟨rfl, fun e => (by cases e), fun j u hu => ?_⟩
  have hu' : (E.cells a)[j]? = some u := by simpa using hu
  exact ⟨_, rfl, World.ownsRow.cells hm (g := w.heap.size) rfl j u hu'⟩

theorem noneE_mine (T : TypeId) (w : World) (B : Nat) : MineE E T w B none 0 0 [] := World.ownsRow_nil w B T E.size

theorem AppendedE.below {E : Enc α} {T : TypeId} {w W : World} {B C : Nat} {A : Option Addr} {n c : Nat} {xs ys : List α} {m : Nat} {A' : Option Addr} {c' : Nat} {w' : World}
    (h : AppendedE E T w B A n xs ys m A' c' w') (hown : MineE E T w B A n c xs) (hw : Below C W w) (hC : C ≤ B) (hB : C ≤ w.heap.size) : Below C W w' :=
  hw.grown h.2.1 hB (fun k hk => by have := (hown.lt k hk).1; omega)

end

end Go.Proofs.YtfomhdhiibcdfaaGreat.More

/-! The contract of the document's shelves. -/
namespace Go.Proofs.YtfomhdhiibcdfaaGreat.Shelf
open Go.RowKit Go.Sort Go.Proofs.YtfomhdhiibcdfaaGreat.Rect Go.Proofs.YtfomhdhiibcdfaaGreat.More

def encSh : Enc (Int × (Int × Int)) := ⟨3, fun x => [.int .i64 x.1, .int .i64 x.2.1, .int .i64 x.2.2], fun _ => rfl, fun x u h => by
  simp only [List.mem_cons, List.not_mem_nil, or_false] at h
  rcases h with h | h | h <;> (subst h; rfl), by omega⟩

/-- How much is left: an edge below, or none. -/
def leftM (fs : List Fl) (t o : Value) : Nat := match o with
  | .bool true => 1 + leftN fs (intOf t)
  | _ => 0

end Go.Proofs.YtfomhdhiibcdfaaGreat.Shelf

/-! What is asked of the program's lists of shelves, whatever they look like; the law's Few, and its begin. -/
namespace Go.Proofs.YtfomhdhiibcdfaaGreat.Shelf
open Go.RowKit Go.Sort Go.Proofs.YtfomhdhiibcdfaaGreat.Rect Go.Proofs.YtfomhdhiibcdfaaGreat.More

/-- Is a float not too far away? -/
def nearF (f : Fl) : Bool := [f.l, f.t, f.r, f.b].all inS

theorem near_of {fs : List Fl} (h : fs.all nearF = true) : Near fs := fun f hf => by
  have := List.all_eq_true.1 h f hf
  unfold nearF at this
  simp only [List.all_cons, List.all_nil, Bool.and_true, Bool.and_eq_true] at this
  exact ⟨(inS_iff.1 this.2.1).1, (inS_iff.1 this.2.2.2).2⟩

theorem inS_low {a : Int} (h : inS a = true) : -4503599627370496 ≤ a := by have := inS_iff.1 h; omega
theorem inS_high {a : Int} (h : inS a = true) : a ≤ 4611686018427387904 := by have := inS_iff.1 h; omega

/-- The least top below a row. -/
def afterD (fs : List Fl) (y : Int) : Int × Bool := match (shelvesD fs).find? (fun x => decide (y < x.1)) with
  | some x => (x.1, true)
  | none => (0, false)

/-- The contracts of the program's lists: at p lies one, in blocks from B on, that stands for these floats. -/
structure ListOk (L : World → Nat → Addr → List Fl → Prop) : Prop where
  keep : ∀ w w' B p fs, L w B p fs → Below w.heap.size w w' → L w' B p fs
  new : ∀ w, Calls Tryz.prog 39 #[] w fun r w' => (∃ p, r = .returned (.pointer (some p)) ∧ L w' w.heap.size p []) ∧ Below w.heap.size w w'
  add : ∀ w B p fs f, L w B p fs → B ≤ w.heap.size → fs.length < 1000 → fs.all nearF = true → nearF f = true → Calls Tryz.prog 54 #[.pointer (some p), .int .i64 f.s, .agg #[.int .i64 f.l, .int .i64 f.t, .int .i64 f.r, .int .i64 f.b]] w fun r w' => (∃ v, r = .returned v) ∧ L w' B p (fs ++ [f]) ∧ Below B w w'

theorem take_all {fs : List Fl} {k : Nat} {f : Fl} (h : fs[k]? = some f) (ha : (fs.take k).all nearF = true) (hf : nearF f = true) : (fs.take (k + 1)).all nearF = true := by
  rw [List.take_add_one, h, List.all_append, ha]
  simp [hf]
theorem not_all {fs : List Fl} {k : Nat} {f : Fl} (h : fs[k]? = some f) (hf : nearF f = false) : fs.all nearF = false := by
  rw [List.all_eq_false]
  exact ⟨f, List.mem_of_getElem? h, by rw [hf]; simp⟩

section
variable {L : World → Nat → Addr → List Fl → Prop}

end

end Go.Proofs.YtfomhdhiibcdfaaGreat.Shelf

/-! Rows of one's own written to in place: copied into, cleared, appended to ahead of their end; a cut row. -/
namespace Go.Proofs.YtfomhdhiibcdfaaGreat.Shelf
open Go.RowKit Go.Sort Go.Proofs.YtfomhdhiibcdfaaGreat.Rect Go.Proofs.YtfomhdhiibcdfaaGreat.More
set_option linter.unusedVariables false

section
variable {α : Type} {E : Enc α} {T : TypeId} {w w' : World} {B g n c : Nat} {xs : List α}

theorem flat_take (E : Enc α) (xs : List α) (k : Nat) : (xs.take k).flatMap E.cells = (xs.flatMap E.cells).take (k * E.size) := by
  induction xs generalizing k with
  | nil => simp
  | cons x xs ih =>
    cases k with
    | zero => simp
    | succ k =>
      rw [List.take_succ_cons, List.flatMap_cons, List.flatMap_cons, ih, List.take_append, E.len, List.take_of_length_le (l := E.cells x) (by rw [E.len, Nat.add_mul, Nat.one_mul]; omega), Nat.add_mul, Nat.one_mul, Nat.add_sub_cancel]
theorem flat_drop (E : Enc α) (xs : List α) (k : Nat) : (xs.drop k).flatMap E.cells = (xs.flatMap E.cells).drop (k * E.size) := by
  induction xs generalizing k with
  | nil => simp
  | cons x xs ih =>
    cases k with
    | zero => simp
    | succ k =>
      rw [List.drop_succ_cons, List.flatMap_cons, ih, List.drop_append, E.len, List.drop_of_length_le (l := E.cells x) (by rw [E.len, Nat.add_mul, Nat.one_mul]; omega), List.nil_append, Nat.add_mul, Nat.one_mul, Nat.add_sub_cancel]

theorem mine_block (h : MineE E T w B (some ⟨g, 0, none⟩) n c xs) : ∃ cur : Array Value, w.heap[g]? = some (.cells cur T (0, 0)) ∧ B ≤ g ∧ n ≤ c ∧ c ≤ maxLen ∧ cur.size = c * E.size ∧ cur.toList.take (n * E.size) = xs.flatMap E.cells := by
  rcases h.2 with ⟨h', _⟩ | ⟨g', cap', cur, h', hb, hg, hnc, hcm, hcs, htake⟩
  · simp at h'
  · simp only [Value.slice.injEq, Option.some.injEq, Addr.mk.injEq, and_true, true_and] at h'
    obtain ⟨rfl, rfl⟩ := h'
    exact ⟨cur, hg, hb, hnc, hcm, hcs, htake⟩

theorem mine_of {cur : Array Value} (hg : w.heap[g]? = some (.cells cur T (0, 0))) (hb : B ≤ g) (hn : n ≤ c) (hm : c ≤ maxLen) (hs : cur.size = c * E.size) (ht : cur.toList.take (n * E.size) = xs.flatMap E.cells) (hl : xs.length = n) :
    MineE E T w B (some ⟨g, 0, none⟩) n c xs := ⟨by rw [E.flat_len, hl], .inr ⟨g, c, cur, rfl, hb, hg, hn, hm, hs, ht⟩⟩

/-- A row, cut. -/
theorem mine_trunc (h : MineE E T w B (some ⟨g, 0, none⟩) n c xs) {k : Nat} (hk : k ≤ n) : MineE E T w B (some ⟨g, 0, none⟩) k c (xs.take k) := by
  obtain ⟨cur, h1, h2, h3, h4, h5, h6⟩ := mine_block h
  have hl := h.len
  refine mine_of h1 h2 (by omega) h4 h5 ?_ (by rw [List.length_take]; omega)
  rw [flat_take, ← h6, List.take_take, Nat.min_eq_left (Nat.mul_le_mul_right _ hk)]

/-- Some are written over, or behind. -/
theorem mine_splice (h : MineE E T w B (some ⟨g, 0, none⟩) n c xs) (o : Nat) (ys : List α) (ho : o ≤ n) (hc : o + ys.length ≤ c) :
    ∃ w', (storeCells ⟨g, o * E.size, none⟩ (ys.flatMap E.cells)).run Tryz.prog w = .ok () w' ∧ MineE E T w' B (some ⟨g, 0, none⟩) (max n (o + ys.length)) c (xs.take o ++ ys ++ xs.drop (o + ys.length)) ∧ w.grownBy w' (some g) := by
  obtain ⟨cur, h1, h2, h3, h4, h5, h6⟩ := mine_block h
  have hl := h.len
  have hfl : (ys.flatMap E.cells).length = ys.length * E.size := E.flat_len ys
  have hfit : (o + ys.length) * E.size ≤ c * E.size := Nat.mul_le_mul_right _ hc
  rw [Nat.add_mul] at hfit
  have hst := run_storeCells_at Tryz.prog g (o * E.size) T (ys.flatMap E.cells) 0 cur w h1 (by rw [hfl, h5]; omega) (E.flat_cells ys)
  rw [Nat.add_zero, hfl] at hst
  refine ⟨_, hst, ?_, ⟨rfl, rfl, rfl, by simp, fun k _ hk => setRow_other w g k _ (fun e => hk (by simp [e]))⟩⟩
  have hos : o * E.size ≤ n * E.size := Nat.mul_le_mul_right _ ho
  have hcl : cur.toList.length = c * E.size := by rw [Array.length_toList]; exact h5
  refine mine_of (setRow_heap w g cur _ T _ h1) h2 (by omega) h4 ?_ ?_ ?_
  · simp only [List.size_toArray, List.length_append, List.length_take, List.length_drop, hcl, hfl]
    omega
  · rw [List.toList_toArray, List.flatMap_append, List.flatMap_append, flat_take, flat_drop, ← h6, List.take_take, Nat.min_eq_left hos]
    have e1 : (cur.toList.take (o * E.size) ++ ys.flatMap E.cells).length = (o + ys.length) * E.size := by
      rw [List.length_append, List.length_take, hcl, hfl, Nat.add_mul]; omega
    rw [List.take_append, e1, List.take_of_length_le (by rw [e1]; exact Nat.mul_le_mul_right _ (by omega)), ← Nat.sub_mul, List.drop_take, ← Nat.sub_mul, ← Nat.add_mul, show max n (o + ys.length) - (o + ys.length) = n - (o + ys.length) by omega]
  · rw [List.length_append, List.length_append, List.length_take, List.length_drop, hl]
    omega

/-- What the model knows of a type's size. -/
theorem info_size {TS : TypeId} {bytes : Nat} (hT : InfoE E T TS bytes) : (Tryz.prog.info? T).map (·.size) = some E.size ∧ Tryz.prog.underlying TS = some (.slice T) := by
  obtain ⟨hu, z, _, hi⟩ := hT
  obtain ⟨i0, hi0, h0, h1, h2⟩ := info_parts hi
  exact ⟨by rw [hi0]; simp [h1], hu⟩

/-- copy(d, s) into a row of one's own. -/
theorem run_copy_E {TS : TypeId} {bytes : Nat} (hT : InfoE E T TS bytes) (ty : TypeId) (h : MineE E T w B (some ⟨g, 0, none⟩) n c xs) (o : Nat) (ys : List α) (ho : o ≤ n) (hc : o + ys.length ≤ c) (dLen dCap sLen sCap : Nat) (a : Addr)
    (hl : ys.length = Nat.min sLen dLen) (hsrc : ∀ j u, (ys.flatMap E.cells)[j]? = some u → w.cell? (a.add j) = some u) :
    ∃ w', (Builtin.copy_ #[TS, TS] ty #[.slice (some ⟨g, o * E.size, none⟩) dLen dCap, .slice (some a) sLen sCap]).run Tryz.prog w = .ok (goInt ys.length) w' ∧
      MineE E T w' B (some ⟨g, 0, none⟩) (max n (o + ys.length)) c (xs.take o ++ ys ++ xs.drop (o + ys.length)) ∧ w.grownBy w' (some g) := by
  obtain ⟨w', h1, h2⟩ := mine_splice h o ys ho hc
  refine ⟨w', ?_, h2⟩
  obtain ⟨hq, hu⟩ := info_size hT
  have hld := run_loadCells_list (P := Tryz.prog) w a (ys.flatMap E.cells) hsrc
  rw [E.flat_len] at hld
  cases hq' : Tryz.prog.info? T with
  | none => simp [hq'] at hq
  | some i =>
    have hi : i.size = E.size := by simpa [hq'] using hq
    simp [Builtin.copy_, run_underlying hu, Builtin.lenOf, Builtin.firstCells, sizeOf, typeInfo, hq', hi, ← hl, hld, h1]

theorem zeroCells_flat (E : Enc α) (zr : α) (z : Array Value) (hz : z.toList = E.cells zr) (m : Nat) : (Builtin.zeroCells z m).toList = (List.replicate m zr).flatMap E.cells := by
  have hzs : z.size = E.size := by rw [← E.len zr, ← hz]; simp
  apply List.ext_getElem?
  intro j
  by_cases hj : j < m * E.size
  · have hq : j / E.size < m := (Nat.div_lt_iff_lt_mul E.pos).2 hj
    have hr : j % E.size < E.size := Nat.mod_lt _ E.pos
    have h1 := E.flat_at (List.replicate m zr) (j / E.size) zr (by rw [List.getElem?_replicate, if_pos hq]) (j % E.size) hr
    rw [Nat.mul_comm, Nat.div_add_mod] at h1
    rw [h1, ← hz]
    simp only [Builtin.zeroCells, Array.toList_map, Array.toList_range, List.getElem?_map, hzs]
    rw [List.getElem?_range hj, Option.map_some, getElem!_pos z (j % E.size) (by omega)]
    simp [hzs, hr]
  · rw [List.getElem?_eq_none (by simp [Builtin.zeroCells, hzs]; omega), List.getElem?_eq_none (by rw [E.flat_len, List.length_replicate]; omega)]

/-- clear(s) of a part of a row of one's own. -/
theorem run_clear_E {TS : TypeId} {bytes : Nat} (hT : InfoE E T TS bytes) (ty : TypeId) (zv : Value) (zr : α) (hv : ∀ w, (zeroValue T).run Tryz.prog w = .ok zv w) (hz : zv.cells.toList = E.cells zr)
    (h : MineE E T w B (some ⟨g, 0, none⟩) n c xs) (o m cc : Nat) (ho : o ≤ n) (hc : o + m ≤ c) (hm : 0 < m) :
    ∃ w', (Builtin.clear_ #[TS] ty #[.slice (some ⟨g, o * E.size, none⟩) m cc]).run Tryz.prog w = .ok (.tuple #[]) w' ∧
      MineE E T w' B (some ⟨g, 0, none⟩) (max n (o + m)) c (xs.take o ++ List.replicate m zr ++ xs.drop (o + m)) ∧ w.grownBy w' (some g) := by
  obtain ⟨w', h1, h2⟩ := mine_splice h o (List.replicate m zr) ho (by rw [List.length_replicate]; exact hc)
  rw [List.length_replicate] at h2
  refine ⟨w', ?_, h2⟩
  obtain ⟨hq, hu⟩ := info_size hT
  rw [← zeroCells_flat E zr _ hz] at h1
  obtain ⟨k, rfl⟩ : ∃ k, m = k + 1 := ⟨m - 1, by omega⟩
  simp [Builtin.clear_, run_underlying hu, hv, h1]

set_option maxRecDepth 100000 in
/-- append(s[:i], ..) where there is room: in place. -/
theorem run_append_room_E {TS : TypeId} {bytes : Nat} (hT : InfoE E T TS bytes) (ty : TypeId) (h : MineE E T w B (some ⟨g, 0, none⟩) n c xs) (o : Nat) (ys : List α) (ho : o ≤ n) (hc : o + ys.length ≤ c) (A2 : Option Addr) (c2 : Nat)
    (hsrc : ∀ j u, (ys.flatMap E.cells)[j]? = some u → ∃ a : Addr, A2 = some a ∧ w.cell? (a.add j) = some u) (hnz : A2 = none → ys = []) :
    ∃ w', (Builtin.append_ #[TS, TS] ty #[.slice (some ⟨g, 0, none⟩) o c, .slice A2 ys.length c2]).run Tryz.prog w = .ok (.slice (some ⟨g, 0, none⟩) (o + ys.length) c) w' ∧
      MineE E T w' B (some ⟨g, 0, none⟩) (max n (o + ys.length)) c (xs.take o ++ ys ++ xs.drop (o + ys.length)) ∧ w.grownBy w' (some g) := by
  obtain ⟨w', h1, h2⟩ := mine_splice h o ys ho hc
  refine ⟨w', ?_, h2⟩
  obtain ⟨hq, hu⟩ := info_size hT
  have hld : (Builtin.firstCells E.size ys.length (.slice A2 ys.length c2)).run Tryz.prog w = .ok (ys.flatMap E.cells).toArray w := by
    cases A2 with
    | none => rw [hnz rfl]; exact run_firstCells_none w _ _ _ _
    | some a => exact run_firstCells_some w _ _ a _ _ _ (E.flat_len ys) (fun j v hj => by
        obtain ⟨a', e, q⟩ := hsrc j v hj
        injection e with e
        subst e
        exact q)
  cases hq' : Tryz.prog.info? T with
  | none => simp [hq'] at hq
  | some i =>
    have hi : i.size = E.size := by simpa [hq'] using hq
    have hadd : (⟨g, 0, none⟩ : Addr).add (o * E.size) = ⟨g, o * E.size, none⟩ := by unfold Addr.add; split <;> simp_all
    simp [Builtin.append_, run_underlying hu, sizeOf, typeInfo, hq', hi, Builtin.lenOf, hc, hld, hadd, h1]

end

end Go.Proofs.YtfomhdhiibcdfaaGreat.Shelf

/-! Shelves as a list: tops that rise, neighbours that are unlike, the last one free; the shelves of one float; the first top below a row. No program is in it. -/
namespace Go.Proofs.YtfomhdhiibcdfaaGreat.Shelf

theorem draws_drop {β : Type} {F : Int → β} : ∀ (i : Nat) (xs : List (Int × β)) (a : Int) (x : Int × β), Draws F a xs → xs[i]? = some x → Draws F x.1 (xs.drop i)
  | _, [], _, _, h, _ => h.elim
  | 0, (t, b) :: r, a, x, h, hx => by
    have e : (t, b) = x := by simpa using hx
    subst e
    have := (draws_head h).1
    subst this
    exact h
  | i + 1, [(t, b)], a, x, h, hx => by simp at hx
  | i + 1, (t, b) :: (t2, b2) :: r, a, x, h, hx => by
    rw [List.getElem?_cons_succ] at hx
    rw [List.drop_succ_cons]
    exact draws_drop i ((t2, b2) :: r) t2 x h.2.2.2.2 hx

/-- Neighbours: the lower one begins below the other, and is unlike. -/
theorem draws_pair {β : Type} {F : Int → β} {xs : List (Int × β)} {a : Int} (h : Draws F a xs) {i : Nat} {x y : Int × β} (hx : xs[i]? = some x) (hy : xs[i + 1]? = some y) : x.1 < y.1 ∧ x.2 ≠ y.2 := by
  have hd := draws_drop i xs a x h hx
  have hi := (List.getElem?_eq_some_iff.1 hx)
  have hi2 := (List.getElem?_eq_some_iff.1 hy)
  obtain ⟨h1, e1⟩ := hi
  obtain ⟨h2, e2⟩ := hi2
  rw [List.drop_eq_getElem_cons h1, List.drop_eq_getElem_cons h2, e1, e2] at hd
  obtain ⟨x1, x2⟩ := x
  obtain ⟨y1, y2⟩ := y
  exact ⟨hd.2.1, hd.2.2.1⟩

theorem draws_rise {β : Type} {F : Int → β} {xs : List (Int × β)} {a : Int} (h : Draws F a xs) : ∀ (d i : Nat) (x y : Int × β), xs[i]? = some x → xs[i + d]? = some y → x.1 ≤ y.1
  | 0, i, x, y, hx, hy => by
    rw [Nat.add_zero, hx] at hy
    injection hy with e
    rw [e]; exact Int.le_refl _
  | d + 1, i, x, y, hx, hy => by
    have hl := (List.getElem?_eq_some_iff.1 hy).1
    obtain ⟨z, hz⟩ : ∃ z, xs[i + d]? = some z := ⟨_, List.getElem?_eq_getElem (by omega)⟩
    have h1 := draws_rise h d i x z hx hz
    have h2 := (draws_pair h hz (by rw [← hy]; rfl)).1
    omega

/-- The last item has what all rows from it on have. -/
theorem draws_last {β : Type} {F : Int → β} : ∀ (xs : List (Int × β)) (a : Int) (x : Int × β), Draws F a xs → xs[xs.length - 1]? = some x → ∀ y, x.1 ≤ y → F y = x.2
  | [], _, _, h, _ => h.elim
  | [(t, b)], a, x, h, hx => by
    have e : (t, b) = x := by simpa using hx
    subst e
    intro y hy
    exact h.2 y (by have := h.1; dsimp only at hy; omega)
  | (t, b) :: (t2, b2) :: r, a, x, h, hx => by
    refine draws_last ((t2, b2) :: r) t2 x h.2.2.2.2 ?_
    have e : ((t, b) :: (t2, b2) :: r).length - 1 = (((t2, b2) :: r).length - 1) + 1 := by simp
    rw [e, List.getElem?_cons_succ] at hx
    exact hx

theorem shelvesD_head (fs : List Fl) : (shelvesD fs)[0]? = some (-far, (-far, far)) := rfl
theorem shelvesD_pos (fs : List Fl) : 0 < (shelvesD fs).length := by unfold shelvesD; simp

theorem shelvesD_pair {fs : List Fl} (hn : Near fs) {i : Nat} {x y : Int × (Int × Int)} (hx : (shelvesD fs)[i]? = some x) (hy : (shelvesD fs)[i + 1]? = some y) : x.1 < y.1 ∧ x.2 ≠ y.2 := draws_pair (shelvesD_draws hn) hx hy

/-- A row below all floats. -/
def lowF (fs : List Fl) : Int := fs.foldl (fun v f => max v f.b) 0
theorem lowF_le : ∀ (fs : List Fl) (v0 : Int), v0 ≤ fs.foldl (fun v f => max v f.b) v0 ∧ ∀ f ∈ fs, f.b ≤ fs.foldl (fun v f => max v f.b) v0
  | [], v0 => ⟨Int.le_refl _, fun f hf => by cases hf⟩
  | f :: fs, v0 => by
    rw [List.foldl_cons]
    obtain ⟨h1, h2⟩ := lowF_le fs (max v0 f.b)
    refine ⟨by omega, fun g hg => ?_⟩
    rcases List.mem_cons.1 hg with e | e
    · subst e; omega
    · exact h2 g e

theorem shelvesD_last {fs : List Fl} (hn : Near fs) {x : Int × (Int × Int)} (hx : (shelvesD fs)[(shelvesD fs).length - 1]? = some x) : x.2 = (-far, far) := by
  have h := draws_last _ _ x (shelvesD_draws hn) hx (max x.1 (lowF fs)) (by omega)
  rw [← h]
  refine bnd_free fun f hf _ => .inr ?_
  have := (lowF_le fs 0).2 f hf
  unfold lowF
  omega

/-- Behind each shelf the next one's top is the first one below. -/
theorem first_below {fs : List Fl} (hn : Near fs) {i : Nat} {x y : Int × (Int × Int)} (hx : (shelvesD fs)[i]? = some x) (hy : (shelvesD fs)[i + 1]? = some y) : (shelvesD fs).find? (fun z => decide (x.1 < z.1)) = some y := by
  have hd := shelvesD_draws hn
  have hp := shelvesD_pair hn hx hy
  have hi := (List.getElem?_eq_some_iff.1 hy).1
  generalize shelvesD fs = ss at hx hy hd hi
  have e : ss = ss.take (i + 1) ++ y :: ss.drop (i + 2) := by
    have hk := (List.getElem?_eq_some_iff.1 hy)
    obtain ⟨hk1, hk2⟩ := hk
    rw [← hk2, ← List.drop_eq_getElem_cons hk1, List.take_append_drop]
  have hno : (ss.take (i + 1)).find? (fun z => decide (x.1 < z.1)) = none := by
    rw [List.find?_eq_none]
    intro z hz
    obtain ⟨j, hj⟩ := List.getElem?_of_mem hz
    rw [List.getElem?_take] at hj
    split at hj
    · rename_i hji
      have := draws_rise hd (i - j) j z x hj (by rw [show j + (i - j) = i by omega]; exact hx)
      simp; omega
    · cases hj
  rw [e, List.find?_append, hno]
  simp [hp.1]

/-- The shelves of one float. -/
theorem bnd_one (f : Fl) (y : Int) : bndF [f] y = ((if hitF 1 y (y + 1) f then max (-far) f.r else -far), (if hitF 2 y (y + 1) f then min far f.l else far)) := rfl

theorem one_none {f : Fl} (hn : Near [f]) (h : cntF f = false) : shelvesD [f] = [(-far, (-far, far))] := by
  refine (shelves_one hn ?_).symm
  refine ⟨rfl, fun y _ => ?_⟩
  exact bnd_free fun g hg hc => by
    rw [List.mem_singleton.1 hg, h] at hc
    cases hc

theorem one_left {f : Fl} (hn : Near [f]) (h : cntF f = true) (h1 : f.s = 1) (hr : -far < f.r) : shelvesD [f] = [(-far, (-far, far)), (f.t, (f.r, far)), (f.b, (-far, far))] := by
  obtain ⟨c1, c2, c3⟩ := cntF_iff.1 h
  have ht := (hn f (by simp)).1
  refine (shelves_one hn ?_).symm
  have free : ∀ y, (y < f.t ∨ f.b ≤ y) → bndF [f] y = (-far, far) := fun y hy => bnd_free fun g hg _ => by rw [List.mem_singleton.1 hg]; exact hy
  have held : ∀ y, f.t ≤ y → y < f.b → bndF [f] y = (f.r, far) := fun y hy1 hy2 => by
    rw [bnd_one, if_pos (hitF_iff.2 ⟨h, h1, by omega, hy2, by omega⟩), if_neg (fun hh => by have := (hitF_iff.1 hh).2.1; omega)]
    rw [Int.max_eq_right (by omega)]
  refine ⟨rfl, by unfold far; omega, fun e => ?_, fun y _ hy => free y (.inl hy), rfl, c2, fun e => ?_, held, rfl, fun y hy => free y (.inr hy)⟩
  · have e1 := congrArg Prod.fst e; dsimp only at e1; omega
  · have e1 := congrArg Prod.fst e; dsimp only at e1; omega

theorem one_right {f : Fl} (hn : Near [f]) (h : cntF f = true) (h1 : f.s = 2) (hl : f.l < far) : shelvesD [f] = [(-far, (-far, far)), (f.t, (-far, f.l)), (f.b, (-far, far))] := by
  obtain ⟨c1, c2, c3⟩ := cntF_iff.1 h
  have ht := (hn f (by simp)).1
  refine (shelves_one hn ?_).symm
  have free : ∀ y, (y < f.t ∨ f.b ≤ y) → bndF [f] y = (-far, far) := fun y hy => bnd_free fun g hg _ => by rw [List.mem_singleton.1 hg]; exact hy
  have held : ∀ y, f.t ≤ y → y < f.b → bndF [f] y = (-far, f.l) := fun y hy1 hy2 => by
    rw [bnd_one, if_neg (fun hh => by have := (hitF_iff.1 hh).2.1; omega), if_pos (hitF_iff.2 ⟨h, h1, by omega, hy2, by omega⟩)]
    rw [Int.min_eq_right (by omega)]
  refine ⟨rfl, by unfold far; omega, fun e => ?_, fun y _ hy => free y (.inl hy), rfl, c2, fun e => ?_, held, rfl, fun y hy => free y (.inr hy)⟩
  · have e1 := congrArg Prod.snd e; dsimp only at e1; omega
  · have e1 := congrArg Prod.snd e; dsimp only at e1; omega

/-! The same floats, in another order, and more often. -/

theorem turned_mem (fs : List Fl) (k : Nat) (f : Fl) : f ∈ fs ↔ f ∈ fs.drop k ++ fs.take k ++ fs.take k := by
  constructor
  · intro h
    rw [← List.take_append_drop k fs] at h
    simp only [List.mem_append] at h ⊢
    rcases h with h | h
    · exact .inl (.inr h)
    · exact .inl (.inl h)
  · intro h
    simp only [List.mem_append] at h
    rcases h with (h | h) | h
    · exact List.mem_of_mem_drop h
    · exact List.mem_of_mem_take h
    · exact List.mem_of_mem_take h

end Go.Proofs.YtfomhdhiibcdfaaGreat.Shelf

/-! A float more, as the program puts it: a list is cut at two rows, narrowed between them, and neighbours that are alike become one: it draws what the rows have then. No program is in it. -/
namespace Go.Proofs.YtfomhdhiibcdfaaGreat.Shelf
set_option linter.unusedVariables false

/-- A list draws rows from one up to another. -/
def Seg {β : Type} (F : Int → β) : Int → Int → List (Int × β) → Prop
  | a, z, [] => z = a
  | a, z, (t, b) :: rest => t = a ∧ ∃ m, a < m ∧ (∀ y, a ≤ y → y < m → F y = b) ∧ Seg F m z rest

/-- A list draws all rows from one on; neighbours may be alike. -/
def DW {β : Type} (F : Int → β) : Int → List (Int × β) → Prop
  | _, [] => False
  | a, [(t, b)] => t = a ∧ ∀ y, a ≤ y → F y = b
  | a, (t, b) :: (t2, b2) :: rest => t = a ∧ a < t2 ∧ (∀ y, a ≤ y → y < t2 → F y = b) ∧ DW F t2 ((t2, b2) :: rest)

/-- Neighbours are unlike. -/
def Unl {β : Type} : List (Int × β) → Prop
  | [] => True
  | [_] => True
  | x :: y :: r => x.2 ≠ y.2 ∧ Unl (y :: r)

section
variable {β : Type} {F G : Int → β}

theorem dw_head {a : Int} {x : Int × β} {r : List (Int × β)} (h : DW F a (x :: r)) : x.1 = a := by
  obtain ⟨t, b⟩ := x
  cases r with
  | nil => exact h.1
  | cons y r => exact h.1

theorem draws_dw : ∀ (xs : List (Int × β)) (a : Int), Draws F a xs → DW F a xs ∧ Unl xs
  | [], _, h => h.elim
  | [(t, b)], _, h => ⟨h, trivial⟩
  | (t, b) :: (t2, b2) :: r, a, ⟨h1, h2, h3, h4, h5⟩ => by
    have := draws_dw ((t2, b2) :: r) t2 h5
    exact ⟨⟨h1, h2, h4, this.1⟩, h3, this.2⟩
theorem dw_draws : ∀ (xs : List (Int × β)) (a : Int), DW F a xs → Unl xs → Draws F a xs
  | [], _, h, _ => h.elim
  | [(t, b)], _, h, _ => h
  | (t, b) :: (t2, b2) :: r, a, ⟨h1, h2, h4, h5⟩, ⟨h3, h6⟩ => ⟨h1, h2, h3, h4, dw_draws ((t2, b2) :: r) t2 h5 h6⟩

theorem dw_split : ∀ (P : List (Int × β)) (a : Int) (x : Int × β) (S : List (Int × β)), DW F a (P ++ x :: S) ↔ Seg F a x.1 P ∧ DW F x.1 (x :: S)
  | [], a, x, S => by
    constructor
    · intro h
      have := dw_head h
      subst this
      exact ⟨rfl, h⟩
    · rintro ⟨h1, h2⟩
      have h1' : x.1 = a := h1
      rw [← h1']
      exact h2
  | (t, b) :: P, a, x, S => by
    have ih := fun m => dw_split P m x S
    obtain ⟨y, r, e⟩ : ∃ y r, P ++ x :: S = y :: r := by
      cases P with
      | nil => exact ⟨x, S, rfl⟩
      | cons p P => exact ⟨p, P ++ x :: S, rfl⟩
    obtain ⟨t2, b2⟩ := y
    constructor
    · intro h
      rw [List.cons_append, e] at h
      obtain ⟨h1, h2, h3, h4⟩ := h
      rw [← e] at h4
      have := (ih t2).1 h4
      exact ⟨⟨h1, t2, h2, h3, this.1⟩, this.2⟩
    · rintro ⟨⟨h1, m, h2, h3, h4⟩, h5⟩
      have h6 := (ih m).2 ⟨h4, h5⟩
      rw [List.cons_append, e]
      rw [e] at h6
      have h7 : t2 = m := dw_head h6
      subst h7
      exact ⟨h1, h2, h3, h6⟩

theorem seg_le : ∀ (P : List (Int × β)) (a z : Int), Seg F a z P → a ≤ z
  | [], a, z, h => by have h' : z = a := h; omega
  | (t, b) :: P, a, z, ⟨_, m, h2, _, h4⟩ => by have := seg_le P m z h4; omega

theorem seg_congr : ∀ (P : List (Int × β)) (a z : Int), (∀ y, a ≤ y → y < z → G y = F y) → Seg F a z P → Seg G a z P
  | [], a, z, _, h => h
  | (t, b) :: P, a, z, hf, ⟨h1, m, h2, h3, h4⟩ => by
    have := seg_le P m z h4
    exact ⟨h1, m, h2, fun y hy1 hy2 => (hf y hy1 (by omega)).trans (h3 y hy1 hy2), seg_congr P m z (fun y hy1 hy2 => hf y (by omega) hy2) h4⟩

theorem seg_map (n : β → β) : ∀ (P : List (Int × β)) (a z : Int), (∀ y, a ≤ y → y < z → G y = n (F y)) → Seg F a z P → Seg G a z (P.map fun x => (x.1, n x.2))
  | [], a, z, _, h => h
  | (t, b) :: P, a, z, hf, ⟨h1, m, h2, h3, h4⟩ => by
    have := seg_le P m z h4
    exact ⟨h1, m, h2, fun y hy1 hy2 => (hf y hy1 (by omega)).trans (by rw [h3 y hy1 hy2]), seg_map n P m z (fun y hy1 hy2 => hf y (by omega) hy2) h4⟩

theorem dw_congr : ∀ (xs : List (Int × β)) (a : Int), (∀ y, a ≤ y → G y = F y) → DW F a xs → DW G a xs
  | [], _, _, h => h
  | [(t, b)], a, hf, h => ⟨h.1, fun y hy => (hf y hy).trans (h.2 y hy)⟩
  | (t, b) :: (t2, b2) :: r, a, hf, ⟨h1, h2, h4, h5⟩ => ⟨h1, h2, fun y hy h => (hf y hy).trans (h4 y hy h), dw_congr ((t2, b2) :: r) t2 (fun y hy => hf y (by omega)) h5⟩

theorem unl_tail {x : Int × β} {r : List (Int × β)} (h : Unl (x :: r)) : Unl r := by
  cases r with
  | nil => trivial
  | cons y r => exact h.2
theorem unl_front : ∀ (P S : List (Int × β)), Unl (P ++ S) → Unl P ∧ Unl S
  | [], S, h => ⟨trivial, h⟩
  | [x], S, h => ⟨trivial, unl_tail h⟩
  | x :: y :: P, S, ⟨h1, h2⟩ => by
    have := unl_front (y :: P) S h2
    exact ⟨⟨h1, this.1⟩, this.2⟩
theorem unl_mid : ∀ (A : List (Int × β)) (x : Int × β) (R : List (Int × β)), Unl (A ++ [x]) → Unl (x :: R) → Unl (A ++ x :: R)
  | [], x, R, _, h => h
  | [y], x, R, h1, h2 => ⟨h1.1, h2⟩
  | y :: z :: A, x, R, ⟨h1, h2⟩, h3 => ⟨h1, unl_mid (z :: A) x R h2 h3⟩
theorem unl_head {x y : Int × β} {S : List (Int × β)} (e : x.2 = y.2) (h : Unl (x :: S)) : Unl (y :: S) := by
  cases S with
  | nil => trivial
  | cons z S => exact ⟨fun k => h.1 (e.trans k), h.2⟩

/-- The places of a list whose tops are below a row begin at k. -/
def Thr (xs : List (Int × β)) (y : Int) (k : Nat) : Prop := k ≤ xs.length ∧ ∀ i x, xs[i]? = some x → (decide (y < x.1) = decide (k ≤ i))

/-- A list that is cut at a row, and the place of the item that begins there. -/
def cutL (xs : List (Int × β)) (y : Int) (k : Nat) : List (Int × β) × Nat := match xs[k - 1]? with
  | none => (xs, 0)
  | some x => if x.1 = y then (xs, k - 1) else (xs.take k ++ (y, x.2) :: xs.drop k, k)

theorem thr_pos {xs : List (Int × β)} {a y : Int} {k : Nat} (h : DW F a xs) (hy : a ≤ y) (ht : Thr xs y k) : 1 ≤ k := by
  cases xs with
  | nil => exact h.elim
  | cons x r =>
    have := ht.2 0 x rfl
    have := dw_head h
    rcases Nat.eq_zero_or_pos k with e | e
    · subst e
      have h3 : decide (y < x.1) = true := by rw [ht.2 0 x rfl]; rfl
      have := of_decide_eq_true h3
      omega
    · exact e

theorem at_split {α : Type} {xs : List α} {k : Nat} {x : α} (h : xs[k]? = some x) : xs = xs.take k ++ x :: xs.drop (k + 1) := by
  obtain ⟨hk1, hk2⟩ := List.getElem?_eq_some_iff.1 h
  rw [← hk2, ← List.drop_eq_getElem_cons hk1, List.take_append_drop]

theorem cut1 {xs : List (Int × β)} {a y : Int} {k : Nat} (h : DW F a xs) (hu : Unl xs) (hy : a ≤ y) (ht : Thr xs y k) :
    ∃ P b S, cutL xs y k = (P ++ (y, b) :: S, P.length) ∧ DW F a (P ++ (y, b) :: S) ∧ Unl P ∧ Unl ((y, b) :: S) ∧ (a < y → P ≠ []) := by
  have hk := thr_pos h hy ht
  have hkl := ht.1
  obtain ⟨x, hx⟩ : ∃ x, xs[k - 1]? = some x := ⟨_, List.getElem?_eq_getElem (by omega)⟩
  have hs := at_split hx
  rw [show k - 1 + 1 = k by omega] at hs
  have hxy : x.1 ≤ y := by
    have := ht.2 _ _ hx
    have h3 : decide (y < x.1) = false := by rw [this]; simp; omega
    have := of_decide_eq_false h3
    omega
  have hV : ∀ v r, xs.drop k = v :: r → y < v.1 := fun v r e => by
    have hv : xs[k]? = some v := by
      have := List.getElem?_drop (xs := xs) (i := k) (j := 0)
      rw [e] at this
      simpa using this.symm
    have := ht.2 _ _ hv
    have h3 : decide (y < v.1) = true := by rw [this]; simp
    exact of_decide_eq_true h3
  obtain ⟨V, hVe⟩ : ∃ V, xs.drop k = V := ⟨_, rfl⟩
  obtain ⟨U, hUe⟩ : ∃ U, xs.take (k - 1) = U := ⟨_, rfl⟩
  have hUl : U.length = k - 1 := by rw [← hUe, List.length_take]; omega
  rw [hVe] at hs hV
  rw [hUe] at hs
  have hd := h
  rw [hs] at hd
  obtain ⟨g1, g2⟩ := (dw_split U a x V).1 hd
  have hu' := hu
  rw [hs] at hu'
  obtain ⟨hu1, hu2⟩ := unl_front U (x :: V) hu'
  obtain ⟨t, b⟩ := x
  by_cases e : t = y
  · subst e
    refine ⟨U, b, V, ?_, ?_, hu1, hu2, fun hay hU => ?_⟩
    · unfold cutL
      rw [hx]
      simp only [if_true]
      rw [hUl]
      exact congrArg (·, k - 1) hs
    · rw [← hs]; exact h
    · subst hU
      have g1' : t = a := g1
      omega
  · dsimp only at hxy e
    refine ⟨U ++ [(t, b)], b, V, ?_, ?_, ?_, unl_head (x := (t, b)) rfl hu2, fun _ hU => by simp at hU⟩
    · unfold cutL
      rw [hx]
      simp only [if_neg e]
      have h1 : xs.take k = U ++ [(t, b)] := by
        rw [show k = (k - 1) + 1 by omega, List.take_add_one, hx, hUe]; rfl
      rw [h1, hVe]
      congr 1
      rw [List.length_append, hUl]
      simp; omega
    · rw [List.append_assoc, List.singleton_append]
      refine (dw_split U a (t, b) _).2 ⟨g1, rfl, by first | omega | (dsimp only; omega), ?_, ?_⟩
      · intro z hz1 hz2
        cases V with
        | nil => exact g2.2 z hz1
        | cons v r =>
          obtain ⟨v1, v2⟩ := v
          have := hV _ _ rfl
          exact g2.2.2.1 z hz1 (by dsimp only at this; omega)
      · cases V with
        | nil => exact ⟨rfl, fun z hz => g2.2 z (by first | omega | (dsimp only; omega))⟩
        | cons v r =>
          obtain ⟨v1, v2⟩ := v
          exact ⟨rfl, hV _ _ rfl, fun z hz1 hz2 => g2.2.2.1 z (by first | omega | (dsimp only; omega)) hz2, g2.2.2.2⟩
    · exact (unl_front (U ++ [(t, b)]) V (by rw [List.append_assoc, List.singleton_append]; exact hu')).1

theorem cut2 {P S : List (Int × β)} {b : β} {a y z : Int} {k : Nat} (h : DW F a (P ++ (y, b) :: S)) (hu : Unl ((y, b) :: S)) (hz : y < z) (ht : Thr (P ++ (y, b) :: S) z k) :
    ∃ M b2 S2, cutL (P ++ (y, b) :: S) z k = (P ++ (M ++ (z, b2) :: S2), P.length + M.length) ∧ Seg F a y P ∧ Seg F y z M ∧ DW F z ((z, b2) :: S2) ∧ Unl ((z, b2) :: S2) := by
  obtain ⟨g1, g2⟩ := (dw_split P a (y, b) S).1 h
  have hk : P.length < k := by
    have := ht.2 P.length (y, b) (by simp)
    have h3 : decide (z < y) = false := by simp; omega
    rw [h3] at this
    have := of_decide_eq_false this.symm
    omega
  have ht' : Thr ((y, b) :: S) z (k - P.length) := by
    refine ⟨by have := ht.1; rw [List.length_append] at this; omega, fun i x hi => ?_⟩
    have := ht.2 (P.length + i) x (by rw [List.getElem?_append_right (by omega), show P.length + i - P.length = i by omega]; exact hi)
    rw [this]
    congr 1
    exact propext ⟨fun q => by omega, fun q => by omega⟩
  obtain ⟨M, b2, S2, e1, e2, -, e4, -⟩ := cut1 g2 hu (by first | omega | (dsimp only; omega)) ht'
  obtain ⟨g3, g4⟩ := (dw_split M y (z, b2) S2).1 e2
  refine ⟨M, b2, S2, ?_, g1, g3, g4, e4⟩
  obtain ⟨x, hx⟩ : ∃ x, ((y, b) :: S)[k - P.length - 1]? = some x := ⟨_, List.getElem?_eq_getElem (by have := ht'.1; omega)⟩
  have hx2 : (P ++ (y, b) :: S)[k - 1]? = some x := by
    rw [List.getElem?_append_right (by omega), show k - 1 - P.length = k - P.length - 1 by omega]; exact hx
  unfold cutL at e1 ⊢
  rw [hx] at e1
  rw [hx2]
  dsimp only at e1 ⊢
  by_cases e : x.1 = z
  · rw [if_pos e] at e1 ⊢
    injection e1 with q1 q2
    rw [← q1]
    congr 1
    omega
  · rw [if_neg e] at e1 ⊢
    injection e1 with q1 q2
    rw [← q1, ← List.append_assoc, List.take_append, List.drop_append, List.take_of_length_le (by omega), List.drop_of_length_le (by omega), List.nil_append, List.append_assoc]
    congr 1
    omega

variable [DecidableEq β]

/-- What is left of items behind one: those that are unlike the one ahead. -/
def compR : Int × β → List (Int × β) → List (Int × β)
  | _, [] => []
  | q, y :: ys => (if y.2 = q.2 then [] else [y]) ++ compR y ys

theorem dw_comp : ∀ (m : List (Int × β)) (p q : Int × β) (C : List (Int × β)), p.2 = q.2 → p.1 ≤ q.1 → (∀ y, p.1 ≤ y → y < q.1 → F y = p.2) → DW F q.1 (q :: (m ++ C)) → DW F p.1 (p :: (compR q m ++ C))
  | [], (p1, p2), (q1, q2), C, e, hl, hf, h => by
    dsimp only at e hl hf h
    subst e
    simp only [compR, List.nil_append] at h ⊢
    cases C with
    | nil => exact ⟨rfl, fun y hy => if hh : y < q1 then hf y hy hh else h.2 y (by omega)⟩
    | cons c C =>
      obtain ⟨c1, c2⟩ := c
      obtain ⟨-, h2, h3, h4⟩ := h
      exact ⟨rfl, by first | omega | (dsimp only; omega), fun y hy hy2 => if hh : y < q1 then hf y hy hh else h3 y (by omega) hy2, h4⟩
  | (y1, y2) :: m, (p1, p2), (q1, q2), C, e, hl, hf, h => by
    dsimp only at e hl hf h
    subst e
    obtain ⟨-, h2, h3, h4⟩ := h
    unfold compR
    have hf2 : ∀ y, p1 ≤ y → y < y1 → F y = p2 := fun y hy hy2 => if hh : y < q1 then hf y hy hh else h3 y (by omega) hy2
    by_cases hy : y2 = p2
    · simp only [hy, if_true, List.nil_append]
      have := dw_comp m (p1, p2) (y1, y2) C hy.symm (by first | omega | (dsimp only; omega)) hf2 h4
      rwa [hy] at this
    · simp only [if_neg hy, List.singleton_append]
      have := dw_comp m (y1, y2) (y1, y2) C rfl (Int.le_refl _) (fun y h1 h2 => by omega) h4
      exact ⟨rfl, by first | omega | (dsimp only; omega), hf2, this⟩

theorem unl_comp : ∀ (m : List (Int × β)) (p q l : Int × β) (C : List (Int × β)), p.2 = q.2 → (q :: m).getLast? = some l → Unl (l :: C) → Unl (p :: (compR q m ++ C))
  | [], p, q, l, C, e, hl, h => by
    have hl' : q = l := by simpa using hl
    subst hl'
    simp only [compR, List.nil_append]
    exact unl_head e.symm h
  | y :: m, p, q, l, C, e, hl, h => by
    rw [List.getLast?_cons_cons] at hl
    unfold compR
    by_cases hy : y.2 = q.2
    · simp only [if_pos hy, List.nil_append]
      exact unl_comp m p y l C (e.trans hy.symm) hl h
    · simp only [if_neg hy, List.singleton_append]
      exact ⟨fun k => hy (k.symm.trans e), unl_comp m y y l C rfl hl h⟩

end

/-- What a float makes of a row's bounds. -/
def narF (f : Fl) (b : Int × Int) : Int × Int := if f.s = 1 then (max b.1 f.r, b.2) else (b.1, min b.2 f.l)

theorem bnd_more {fs : List Fl} {f : Fl} (h : cntF f = true) (y : Int) : bndF (fs ++ [f]) y = if f.t ≤ y ∧ y < f.b then narF f (bndF fs y) else bndF fs y := by
  obtain ⟨-, -, hs⟩ := cntF_iff.1 h
  unfold bndF bandL bandR narF
  rw [List.foldl_append, List.foldl_append]
  simp only [List.foldl_cons, List.foldl_nil]
  have k1 : hitF 1 y (y + 1) f = true ↔ f.s = 1 ∧ f.t ≤ y ∧ y < f.b := by
    rw [hitF_iff]; exact ⟨fun ⟨_, a, b, c, _⟩ => ⟨a, by omega, c⟩, fun ⟨a, b, c⟩ => ⟨h, a, by omega, c, by omega⟩⟩
  have k2 : hitF 2 y (y + 1) f = true ↔ f.s = 2 ∧ f.t ≤ y ∧ y < f.b := by
    rw [hitF_iff]; exact ⟨fun ⟨_, a, b, c, _⟩ => ⟨a, by omega, c⟩, fun ⟨a, b, c⟩ => ⟨h, a, by omega, c, by omega⟩⟩
  simp only [k1, k2]
  by_cases hr : f.t ≤ y ∧ y < f.b
  · rw [if_pos hr]
    rcases hs with hs | hs
    · rw [if_pos ⟨hs, hr⟩, if_neg (fun q => by have := q.1; omega), if_pos hs]
    · rw [if_neg (fun q => by have := q.1; omega), if_pos ⟨hs, hr⟩, if_neg (by omega)]
  · rw [if_neg (fun q => hr q.2), if_neg (fun q => hr q.2), if_neg hr]

/-- A float that doesn't count changes nothing. -/
theorem shelvesD_same {fs : List Fl} {f : Fl} (h : cntF f = false) (hn : Near fs) (hn2 : Near (fs ++ [f])) : shelvesD fs = shelvesD (fs ++ [f]) := by
  refine shelves_one hn2 (draws_congr _ _ (fun y _ => ?_) (shelvesD_draws hn))
  have k : ∀ s, hitF s y (y + 1) f = false := fun s => by
    cases hh : hitF s y (y + 1) f with
    | false => rfl
    | true => rw [(hitF_iff.1 hh).1] at h; cases h
  unfold bndF bandL bandR
  rw [List.foldl_append, List.foldl_append]
  simp [k]

/-- One float more, as it is put. -/
theorem add_shelves {fs : List Fl} {f : Fl} (hn : Near fs) (hn2 : Near (fs ++ [f])) (h : cntF f = true) (k1 : Nat) (h1 : Thr (shelvesD fs) f.t k1) :
    ∀ k2, Thr (cutL (shelvesD fs) f.t k1).1 f.b k2 →
    ∃ A x M b2 C, (cutL (cutL (shelvesD fs) f.t k1).1 f.b k2).1 = A ++ x :: (M ++ (f.b, b2) :: C) ∧ (cutL (shelvesD fs) f.t k1).2 = A.length + 1 ∧ (cutL (cutL (shelvesD fs) f.t k1).1 f.b k2).2 = A.length + 1 + M.length ∧
      A ++ (x :: compR x (M.map (fun x => (x.1, narF f x.2)) ++ [(f.b, b2)])) ++ C = shelvesD (fs ++ [f]) := by
  obtain ⟨hd, hu⟩ := draws_dw _ _ (shelvesD_draws hn)
  have hfm : f ∈ fs ++ [f] := by simp
  have ht := (hn2 f hfm).1
  have htb := (cntF_iff.1 h).2.1
  obtain ⟨P, b, S, e1, e2, e3, e4, e5⟩ := cut1 hd hu (by unfold far; omega) h1
  rw [e1]
  intro k2 h2
  obtain ⟨M, b2, C, q1, q2, q3, q4, q5⟩ := cut2 e2 e4 htb h2
  rw [q1]
  obtain ⟨A, x, rfl⟩ : ∃ A x, P = A ++ [x] := by
    have hP := e5 (by unfold far; omega)
    exact ⟨P.dropLast, P.getLast hP, (List.dropLast_concat_getLast hP).symm⟩
  refine ⟨A, x, M, b2, C, by simp, by simp, by simp, ?_⟩
  have c1 : ∀ y, -far ≤ y → y < f.t → bndF (fs ++ [f]) y = bndF fs y := fun y _ hy => by rw [bnd_more h, if_neg (by omega)]
  have c2 : ∀ y, f.t ≤ y → y < f.b → bndF (fs ++ [f]) y = narF f (bndF fs y) := fun y hy1 hy2 => by rw [bnd_more h, if_pos ⟨hy1, hy2⟩]
  have c3 : ∀ y, f.b ≤ y → bndF (fs ++ [f]) y = bndF fs y := fun y hy => by rw [bnd_more h, if_neg (by omega)]
  have r1 := seg_congr _ _ _ c1 q2
  have r2 := seg_map (narF f) _ _ _ c2 q3
  have r3 := dw_congr _ _ c3 q4
  -- the whole, narrowed
  have w2 : DW (bndF (fs ++ [f])) f.t (M.map (fun x => (x.1, narF f x.2)) ++ (f.b, b2) :: C) := (dw_split _ f.t (f.b, b2) C).2 ⟨r2, r3⟩
  obtain ⟨y0, r0, e0⟩ : ∃ y0 r0, M.map (fun x => (x.1, narF f x.2)) ++ (f.b, b2) :: C = y0 :: r0 := by
    cases M with
    | nil => exact ⟨_, _, rfl⟩
    | cons p M => exact ⟨_, _, rfl⟩
  have hy0 : y0.1 = f.t := by rw [e0] at w2; exact dw_head w2
  have w1 : DW (bndF (fs ++ [f])) (-far) ((A ++ [x]) ++ y0 :: r0) := (dw_split _ _ y0 r0).2 ⟨by rw [hy0]; exact r1, by rw [hy0, ← e0]; exact w2⟩
  rw [← e0, List.append_assoc, List.singleton_append] at w1
  obtain ⟨w3, w4⟩ := (dw_split A (-far) x _).1 w1
  have w5 := dw_comp (M.map (fun x => (x.1, narF f x.2)) ++ [(f.b, b2)]) x x C rfl (Int.le_refl _) (fun y h1 h2 => by omega) (by rw [List.append_assoc, List.singleton_append]; exact w4)
  have w6 := unl_comp (M.map (fun x => (x.1, narF f x.2)) ++ [(f.b, b2)]) x x (f.b, b2) C rfl (by rw [← List.cons_append, List.getLast?_append]; rfl) q5
  have w7 : DW (bndF (fs ++ [f])) (-far) (A ++ x :: (compR x (M.map (fun x => (x.1, narF f x.2)) ++ [(f.b, b2)]) ++ C)) := (dw_split A (-far) x _).2 ⟨w3, w5⟩
  have w8 := unl_mid A x _ e3 w6
  have := shelves_one hn2 (dw_draws _ _ w7 w8)
  rw [← this, List.append_assoc, List.cons_append]

end Go.Proofs.YtfomhdhiibcdfaaGreat.Shelf

/-! The program's list as it lies; sort.Search; below, of, After. -/
namespace Go.Proofs.YtfomhdhiibcdfaaGreat.Shelf
open Go.RowKit Go.Sort Go.Proofs.YtfomhdhiibcdfaaGreat.Rect Go.Proofs.YtfomhdhiibcdfaaGreat.More
set_option linter.unusedVariables false

abbrev Sh := Int × (Int × Int)

/-- A list at block pb: its slice lies there, its shelves in a row of one's own, g. -/
structure Lst (w : World) (B pb g n c : Nat) (xs : List Sh) : Prop where
  hb : B ≤ pb
  cell : w.cell? ⟨pb, 0, none⟩ = some (.slice (some ⟨g, 0, none⟩) n c)
  frz : w.frozen? ⟨pb, 0, none⟩ = false
  ne : g ≠ pb
  row : MineE encSh 120 w B (some ⟨g, 0, none⟩) n c xs

section
variable {w w' : World} {B pb g n c : Nat} {xs : List Sh}

theorem Lst.lt (h : Lst w B pb g n c xs) : pb < w.heap.size := block_lt_of_cell h.cell
theorem Lst.len (h : Lst w B pb g n c xs) : xs.length = n := MineE.len h.row
theorem Lst.glt (h : Lst w B pb g n c xs) : B ≤ g ∧ g < w.heap.size := MineE.lt h.row g rfl
theorem Lst.cap (h : Lst w B pb g n c xs) : n ≤ c ∧ c ≤ 9223372036854775807 := by
  obtain ⟨cur, h1, h2, h3, h4, h5, h6⟩ := mine_block h.row
  exact ⟨h3, by unfold maxLen at h4; omega⟩
theorem Lst.below (h : Lst w B pb g n c xs) (k : Below w.heap.size w w') : Lst w' B pb g n c xs :=
  ⟨h.hb, (k.cell (p := ⟨pb, 0, none⟩) h.lt).trans h.cell, (k.frozen (p := ⟨pb, 0, none⟩) h.lt).trans h.frz, h.ne, MineE.below h.row k⟩
theorem Lst.at (h : Lst w B pb g n c xs) (k : Nat) (x : Sh) (hx : xs[k]? = some x) :
    w.cell? ⟨g, k * 3, none⟩ = some (.int .i64 x.1) ∧ w.cell? ⟨g, k * 3 + 1, none⟩ = some (.int .i64 x.2.1) ∧ w.cell? ⟨g, k * 3 + 2, none⟩ = some (.int .i64 x.2.2) :=
  ⟨MineE.at h.row k x hx 0 (by decide), MineE.at h.row k x hx 1 (by decide), MineE.at h.row k x hx 2 (by decide)⟩
/-- The row has been written to, the list's own block not. -/
theorem Lst.rowed {n' : Nat} {ys : List Sh} (h : Lst w B pb g n c xs) (k : w.grownBy w' (some g)) (m : MineE encSh 120 w' B (some ⟨g, 0, none⟩) n c ys) : Lst w' B pb g n c ys :=
  ⟨h.hb, k.cell h.cell (by simp; exact Ne.symm h.ne), (k.frozen_far ⟨pb, 0, none⟩ h.lt (by simp; exact Ne.symm h.ne)).trans h.frz, h.ne, m⟩

end

set_option maxHeartbeats 1000000 in
theorem closure_top (pl py pb g n c B i : Nat) (xs : List Sh) (x : Sh) (y : Int) (w : World) (hl : Lst w B pb g n c xs) (h1 : w.cell? ⟨pl, 0, none⟩ = some (.pointer (some ⟨pb, 0, none⟩))) (h2 : w.cell? ⟨py, 0, none⟩ = some (.int .i64 y)) (hx : xs[i]? = some x) :
    Calls Tryz.prog 106 (#[.int .i64 (i : Int)] ++ #[.pointer (some ⟨pl, 0, none⟩), .pointer (some ⟨py, 0, none⟩)]) w fun e w' => e = .returned (.bool (decide (y < x.1))) ∧ Below w.heap.size w w' := by
  have hi : i < xs.length := (List.getElem?_eq_some_iff.1 hx).1
  rw [hl.len] at hi
  have hi' : (i : Int) < (n : Int) := by omega
  have hp := hl.cell
  obtain ⟨c0, -, -⟩ := hl.at i x hx
  clear hl hx
  go_enter Tryz.func106, Tryz.ntmps106
  go_upto_region 1 with fail
  go_quiet (fail)
  have q : Below w.heap.size w (w.drewN nq) := ⟨rfl, rfl, rfl, Nat.le_refl _, fun _ _ => rfl⟩
  clear hp c0 h1 h2
  generalize w.drewN nq = w4 at q ⊢
  have HQ := Lib.hid q
  clear q
  go_wp2_with fail
  go_ret
  exact ⟨rfl, HQ.out⟩

set_option maxHeartbeats 2000000 in
/-- sort.Search, of a closure that only makes memory. -/
theorem search_far (f : Nat) (cb : Array Value) (n k : Nat) (w : World) (eg : ∀ args w, (callFunc f args).run Tryz.prog w = .ok (.enter f args) w) (hk : k ≤ n) (hn : n ≤ 1152921504606846976)
    (hf : ∀ (w1 : World) (i : Nat), Below w.heap.size w w1 → i < n → Calls Tryz.prog f (#[.int .i64 (i : Int)] ++ cb) w1 fun e w' => e = .returned (.bool (decide (k ≤ i))) ∧ Below w1.heap.size w1 w') :
    Calls Tryz.prog 105 #[.int .i64 (n : Int), .func (.func f) #[] cb] w fun e w' => e = .returned (.int .i64 (k : Int)) ∧ Below w.heap.size w w' := by
  have HF := Lib.hid hf
  clear hf
  go_enter Tryz.func105, Tryz.ntmps105
  go_wp2_with fail
  go_loopw [5, 6] (fun s5 s6 wr => ∃ lo hi : Nat, s5 = .int .i64 (lo : Int) ∧ s6 = .int .i64 (hi : Int) ∧ lo ≤ k ∧ k ≤ hi ∧ hi ≤ n ∧ Hid (Below w.heap.size w wr)) (fun s5 s6 _ => (intOf s6 - intOf s5).toNat)
  case atStart => exact ⟨0, n, rfl, rfl, Nat.zero_le _, hk, Nat.le_refl _, Lib.hid (Below.refl _ _)⟩
  case round =>
    obtain ⟨lo, hi, rfl, rfl, h1, h2, h3, H⟩ := hrel
    by_cases hlt : lo < hi
    · have hc := HF.out wr ((lo + hi) / 2) H.out (by omega)
      rw [show (((lo + hi) / 2 : Nat) : Int) = ((lo : Int) + (hi : Int)) / 2 by omega] at hc
      by_cases hp : k ≤ (lo + hi) / 2
      · rw [show decide (k ≤ (lo + hi) / 2) = true from by simp [hp]] at hc
        have HC := Lib.hid hc
        clear hc
        go_wp2_with (go_at_fn f; refine HC.out.mono ?_; rintro e w' ⟨rfl, kq⟩; have KQ := Lib.hid (thru H.out kq); clear kq)
        go_roundw
        case rel => exact ⟨lo, (lo + hi) / 2, rfl, by rw [show ((lo : Int) + (hi : Int)) / 2 = (((lo + hi) / 2 : Nat) : Int) by omega], h1, hp, by omega, KQ⟩
        case measure => simp [intOf]; omega
      · rw [show decide (k ≤ (lo + hi) / 2) = false from by simp [hp]] at hc
        have HC := Lib.hid hc
        clear hc
        go_wp2_with (go_at_fn f; refine HC.out.mono ?_; rintro e w' ⟨rfl, kq⟩; have KQ := Lib.hid (thru H.out kq); clear kq)
        go_roundw
        case rel => exact ⟨(lo + hi) / 2 + 1, hi, by rw [show ((lo : Int) + (hi : Int)) / 2 + 1 = (((lo + hi) / 2 + 1 : Nat) : Int) by omega], rfl, by omega, h2, h3, KQ⟩
        case measure => simp [intOf]; omega
    · obtain rfl : lo = k := by omega
      go_wp2_with fail
      go_ret
      exact ⟨rfl, H.out⟩

theorem search_any (f : Nat) (cb : Array Value) (n k : Nat) (w : World) (eg : ∀ args w, (callFunc f args).run Tryz.prog w = .ok (.enter f args) w) (hk : k ≤ n) (hn : n ≤ 1000000)
    (hf : ∀ (w1 : World) (i : Nat), Below w.heap.size w w1 → i < n → Calls Tryz.prog f (#[.int .i64 (i : Int)] ++ cb) w1 fun e w' => e = .returned (.bool (decide (k ≤ i))) ∧ Below w1.heap.size w1 w') :
    Calls Tryz.prog 105 #[.int .i64 (n : Int), .func (.func f) #[] cb] w fun e w' => e = .returned (.int .i64 (k : Int)) ∧ Below w.heap.size w w' :=
  search_far f cb n k w eg hk (by omega) hf

set_option maxHeartbeats 1000000 in
theorem below_any (pb g n c B k : Nat) (xs : List Sh) (y : Int) (w : World) (hl : Lst w B pb g n c xs) (hn : n ≤ 1000000) (ht : Thr xs y k) :
    Calls Tryz.prog 101 #[.pointer (some ⟨pb, 0, none⟩), .int .i64 y] w fun e w' => e = .returned (.int .i64 (k : Int)) ∧ Below w.heap.size w w' := by
  have hlen := hl.len
  have hpl := hl.lt
  have hk : k ≤ n := by have := ht.1; omega
  have HS := Lib.hid (fun (w1 : World) (k1 : Below w.heap.size w w1) (e1 : w1.cell? ⟨w.heap.size, 0, none⟩ = some (.pointer (some ⟨pb, 0, none⟩))) (e2 : w1.cell? ⟨w.heap.size + 1, 0, none⟩ = some (.int .i64 y)) =>
    search_any 106 #[.pointer (some ⟨w.heap.size, 0, none⟩), .pointer (some ⟨w.heap.size + 1, 0, none⟩)] n k w1 (enters_of Tryz.func106 (by kernel_rfl) rfl) hk hn (fun w2 i k2 hi => by
      obtain ⟨x, hx⟩ : ∃ x, xs[i]? = some x := ⟨_, List.getElem?_eq_getElem (by omega)⟩
      rw [← ht.2 i x hx]
      exact closure_top _ _ _ _ _ _ B i xs x y w2 (hl.below (thru k1 k2)) ((k2.cell (p := ⟨_, 0, none⟩) (block_lt_of_cell e1)).trans e1) ((k2.cell (p := ⟨_, 0, none⟩) (block_lt_of_cell e2)).trans e2) hx))
  have hp := hl.cell
  clear hl ht
  go_enter Tryz.func101, Tryz.ntmps101
  go_upto_region 1 with fail
  generalize hW : World.alloc (World.alloc w _) _ = W
  have hkW : Below w.heap.size w W := by rw [← hW]; exact ba2 _ _ _
  have e1 : W.cell? ⟨w.heap.size, 0, none⟩ = some (.pointer (some ⟨pb, 0, none⟩)) := by rw [← hW]; simp [go_sem]
  have e2 : W.cell? ⟨w.heap.size + 1, 0, none⟩ = some (.int .i64 y) := by rw [← hW]; simp [go_sem]
  have hp' := (hkW.cell (p := ⟨pb, 0, none⟩) hpl).trans hp
  clear hp
  have KW := Lib.hid hkW
  clear hW hkW
  go_wp2_with (first
    | (go_at_call 105; refine (HS.out _ KW.out e1 e2).mono ?_; rintro e w1 ⟨rfl, k1⟩; have K1 := Lib.hid (thru KW.out k1); clear k1))
  go_ret
  exact ⟨rfl, K1.out⟩

set_option maxHeartbeats 1000000 in
theorem of_zero (pb g n c B : Nat) (xs : List Sh) (y : Int) (w : World) (hl : Lst w B pb g n c xs) (hn : n ≤ 1000000) (ht : Thr xs y 0) :
    Calls Tryz.prog 94 #[.pointer (some ⟨pb, 0, none⟩), .int .i64 y] w fun e w' => e = .returned (.int .i64 0) ∧ Below w.heap.size w w' := by
  have HB := Lib.hid (below_any pb g n c B 0 xs y w hl hn ht)
  clear hl ht
  go_enter Tryz.func94, Tryz.ntmps94
  go_wp2_with (first
    | (go_at_call 101; refine HB.out.mono ?_; rintro e w1 ⟨rfl, k1⟩; have K1 := Lib.hid k1; clear k1))
  go_ret
  exact ⟨rfl, K1.out⟩

set_option maxHeartbeats 1000000 in
theorem of_next (pb g n c B k : Nat) (xs : List Sh) (y : Int) (w : World) (hl : Lst w B pb g n c xs) (hn : n ≤ 1000000) (ht : Thr xs y (k + 1)) :
    Calls Tryz.prog 94 #[.pointer (some ⟨pb, 0, none⟩), .int .i64 y] w fun e w' => e = .returned (.int .i64 (k : Int)) ∧ Below w.heap.size w w' := by
  have hB := below_any pb g n c B (k + 1) xs y w hl hn ht
  have hk : k + 1 ≤ n := by have := ht.1; have := hl.len; omega
  obtain ⟨q, hq⟩ : ∃ q : Int, ((k + 1 : Nat) : Int) = q := ⟨_, rfl⟩
  have hw : IntKind.i64.wrap (q - 1) = (k : Int) := by rw [IntWalk.i64_in _ (by omega)]; omega
  rw [hq] at hB
  have HB := Lib.hid hB
  have hk0 : ¬ (k : Int) < 0 := by omega
  have hk1 : (0 : Int) ≤ (k : Int) := by omega
  clear hl ht hB hq hk
  go_enter Tryz.func94, Tryz.ntmps94
  go_wp2_with (first
    | (go_at_call 101; refine HB.out.mono ?_; rintro e w1 ⟨rfl, k1⟩; have K1 := Lib.hid k1; clear k1))
  go_ret
  exact ⟨rfl, K1.out⟩

end Go.Proofs.YtfomhdhiibcdfaaGreat.Shelf
