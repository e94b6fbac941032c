/- Lists of one's own of whatever lies in several cells (structs of numbers): read, appended to, and turned in place. -/
import Derived.Test.YtpfcefflcmeobaaRow
import Derived.Laws.OwnMore
namespace Go.Proofs.Ytpfcefflcmeobaa.More
open Go.RowKit

/-- How the values of a kind lie in cells. -/
structure Enc (α : Type) where
  size : Nat
  cells : α → List Value
  len : ∀ a, (cells a).length = size
  one : ∀ a, ∀ u ∈ cells a, u.oneCell' = true
  pos : 0 < size

section
variable {α : Type} (E : Enc α)

theorem Enc.flat_len (xs : List α) : (xs.flatMap E.cells).length = xs.length * E.size := by
  induction xs with
  | nil => simp
  | cons x xs ih => simp only [List.flatMap_cons, List.length_append, E.len, ih, List.length_cons, Nat.add_mul, Nat.one_mul]; omega

theorem Enc.flat_at (xs : List α) : ∀ (k : Nat) (a : α), xs[k]? = some a → ∀ j, j < E.size → (xs.flatMap E.cells)[k * E.size + j]? = (E.cells a)[j]? := by
  induction xs with
  | nil => intro k a h; simp at h
  | cons x xs ih =>
    intro k a h j hj
    rw [List.flatMap_cons]
    cases k with
    | zero =>
      obtain rfl : x = a := by simpa using h
      rw [Nat.zero_mul, Nat.zero_add, List.getElem?_append_left (by rw [E.len]; exact hj)]
    | succ k =>
      have e : (k + 1) * E.size + j - E.size = k * E.size + j := by rw [Nat.add_mul, Nat.one_mul]; omega
      rw [List.getElem?_append_right (by rw [E.len, Nat.add_mul, Nat.one_mul]; omega), E.len, e]
      exact ih k a (by simpa using h) j hj

theorem Enc.flat_set (xs : List α) : ∀ (k : Nat) (a a' : α) (j : Nat) (u : Value), xs[k]? = some a → j < E.size → E.cells a' = (E.cells a).set j u → (xs.flatMap E.cells).set (k * E.size + j) u = (xs.set k a').flatMap E.cells := by
  induction xs with
  | nil => intro k a a' j u h; simp at h
  | cons x xs ih =>
    intro k a a' j u h hj hc
    cases k with
    | zero =>
      obtain rfl : x = a := by simpa using h
      rw [List.flatMap_cons, Nat.zero_mul, Nat.zero_add, List.set_append_left _ _ (by rw [E.len]; exact hj), List.set_cons_zero, List.flatMap_cons, hc]
    | succ k =>
      have e : (k + 1) * E.size + j - E.size = k * E.size + j := by rw [Nat.add_mul, Nat.one_mul]; omega
      rw [List.flatMap_cons, List.set_append_right _ _ (by rw [E.len, Nat.add_mul, Nat.one_mul]; omega), E.len, e, List.set_cons_succ, List.flatMap_cons]
      congr 1
      exact ih k a a' j u (by simpa using h) hj hc

theorem Enc.flat_cells (xs : List α) : ∀ u ∈ xs.flatMap E.cells, u.oneCell' = true := by
  intro u hu
  rw [List.mem_flatMap] at hu
  obtain ⟨a, _, h⟩ := hu
  exact E.one a u h

/-- A slice of one's own. -/
def MineE (T : TypeId) (w : World) (B : Nat) (A : Option Addr) (n c : Nat) (xs : List α) : Prop :=
  w.ownsRow B T E.size (.slice A n c) n (xs.flatMap E.cells)

theorem shapeE {T : TypeId} {w : World} {B : Nat} {s : Nat} {v : Value} {n : Nat} {xs : List Value} (h : w.ownsRow B T s v n xs) : ∃ A c, v = .slice A n c := by
  rcases h.2 with ⟨rfl, rfl⟩ | ⟨g, cap, cur, rfl, _⟩
  · exact ⟨none, 0, rfl⟩
  · exact ⟨_, _, rfl⟩

section
variable {E} {T : TypeId} {w w' : World} {B : Nat} {A : Option Addr} {n c : Nat} {xs : List α}

theorem MineE.len (h : MineE E T w B A n c xs) : xs.length = n := by
  have := h.1
  rw [E.flat_len] at this
  exact Nat.eq_of_mul_eq_mul_right E.pos this

theorem MineE.lt (h : MineE E T w B A n c xs) : ∀ k, blk A = some k → B ≤ k ∧ k < w.heap.size := by
  intro k hk
  exact World.ownsRow.lt h k (by rw [ownBlock_blk]; exact hk)

theorem MineE.mono {C : Nat} (h : MineE E T w B A n c xs) (hC : C ≤ B) : MineE E T w C A n c xs := by
  refine ⟨h.1, ?_⟩
  rcases h.2 with h | ⟨g, cap, cur, e, hb, r⟩
  · exact .inl h
  · exact .inr ⟨g, cap, cur, e, by omega, r⟩

theorem MineE.kept {row : Option Nat} (h : MineE E T w B A n c xs) (hg : w.grownBy w' row) (hne : ∀ k, blk A = some k → row ≠ some k) : MineE E T w' B A n c xs := by
  refine World.ownsRow.kept h hg ?_
  rw [ownBlock_blk]
  cases hb : blk A with
  | none => exact .inl rfl
  | some k => exact .inr fun e => hne k hb e.symm

theorem MineE.below (h : MineE E T w B A n c xs) (hb : Below w.heap.size w w') : MineE E T w' B A n c xs :=
  h.kept (grown_of_below hb) (fun k _ e => by cases e)

theorem MineE.alloc (h : MineE E T w B A n c xs) (o : Obj) : MineE E T (w.alloc o) B A n c xs := World.ownsRow.alloc h o
theorem MineE.drew (h : MineE E T w B A n c xs) : MineE E T w.drew B A n c xs := h

/-- Where a list lies that has something. -/
theorem MineE.form (h : MineE E T w B A n c xs) (hn : 0 < n) : ∃ g, A = some ⟨g, 0, none⟩ ∧ B ≤ g ∧ g < w.heap.size ∧ n ≤ c ∧ c ≤ maxLen := by
  rcases h.2 with ⟨_, h0⟩ | ⟨g, cap, cur, e, hb, hg, hc, hm, _⟩
  · omega
  · injection e with e1 e2 e3
    subst e1 e3
    exact ⟨g, rfl, hb, (Array.getElem?_eq_some_iff.1 hg).1, hc, hm⟩

theorem MineE.at {g : Nat} (h : MineE E T w B (some ⟨g, 0, none⟩) n c xs) (k : Nat) (a : α) (ha : xs[k]? = some a) (j : Nat) (hj : j < E.size) : w.cell? ⟨g, k * E.size + j, none⟩ = (E.cells a)[j]? := by
  have hl := h.len
  have hk := (List.getElem?_eq_some_iff.1 ha).1
  have h1 : k * E.size + j < n * E.size := by
    have h2 : (k + 1) * E.size ≤ n * E.size := Nat.mul_le_mul_right _ (by omega)
    rw [Nat.add_mul, Nat.one_mul] at h2
    omega
  rw [World.ownsRow.cellAt h _ h1, E.flat_at xs k a ha j hj]

theorem MineE.frozen {g : Nat} (h : MineE E T w B (some ⟨g, 0, none⟩) n c xs) (j : Nat) : w.frozen? ⟨g, j, none⟩ = false := World.ownsRow.frozenAt h j

/-- One cell of one of them is turned. -/
theorem MineE.stored {g : Nat} (h : MineE E T w B (some ⟨g, 0, none⟩) n c xs) (k : Nat) (a a' : α) (ha : xs[k]? = some a) (j : Nat) (hj : j < E.size) (u : Value) (hc : E.cells a' = (E.cells a).set j u) :
    MineE E T (w.setCell ⟨g, k * E.size + j, none⟩ u) B (some ⟨g, 0, none⟩) n c (xs.set k a') ∧ w.grownBy (w.setCell ⟨g, k * E.size + j, none⟩ u) (some g) := by
  obtain ⟨h1, h2⟩ := World.ownsRow.stored h (k * E.size + j) u
  refine ⟨?_, h2⟩
  unfold MineE
  rw [← E.flat_set xs k a a' j u ha hj hc]
  exact h1

end

/-- What is appended: m of them, of a slice, nil or not. -/
def SrcE (w : World) (A : Option Addr) (m c : Nat) (ys : List α) : Prop :=
  ys.length = m ∧ (A = none → c = 0) ∧ ∀ j u, (ys.flatMap E.cells)[j]? = some u → ∃ ad : Addr, A = some ad ∧ w.cell? (ad.add j) = some u

/-- What the model knows of a type. -/
def InfoE (T TS : TypeId) (bytes : Nat) : Prop :=
  Try.prog.underlying TS = some (.slice T) ∧ ∃ z : Value, z.cells.size = E.size ∧ (Try.prog.info? T).map (fun i => (i.zero, i.size, i.bytes)) = some (some z, E.size, bytes)

/-- What an append leaves. -/
def AppendedE (T : TypeId) (w : World) (B : Nat) (A : Option Addr) (n : Nat) (xs ys : List α) (m : Nat) (A' : Option Addr) (c' : Nat) (w' : World) : Prop :=
  MineE E T w' B A' (n + m) c' (xs ++ ys) ∧ w.grownBy w' (blk A) ∧ (blk A' = blk A ∨ blk A' = some w.heap.size)

theorem run_append_E {T TS : TypeId} {bytes : Nat} (hb2 : bytes ≤ 10000) (hT : InfoE E T TS bytes) (ty : TypeId) (w : World) (B : Nat) (A : Option Addr) (n c : Nat) (xs : List α) (hown : MineE E T w B A n c xs) (A2 : Option Addr) (m c2 : Nat) (ys : List α) (hs : SrcE E w A2 m c2 ys)
    (hlen : n + m ≤ 1000000) (hB : B ≤ w.heap.size) :
    ∃ A' c' w', (Builtin.append_ #[TS, TS] ty #[.slice A n c, .slice A2 m c2]).run Try.prog w = .ok (.slice A' (n + m) c') w' ∧ AppendedE E T w B A n xs ys m A' c' w' := by
  obtain ⟨hu, z, hzc, hinfo⟩ := hT
  obtain ⟨i0, hi0, hz0, hz1, hz2⟩ := info_parts hinfo
  obtain ⟨h1, h2, h3⟩ := hs
  cases A2 with
  | none =>
    have hm : m = 0 := by
      rcases Nat.eq_zero_or_pos m with h | h
      · exact h
      · cases ys with
        | nil => simp at h1; omega
        | cons y ys =>
          have hp := E.pos
          have hl := E.len y
          obtain ⟨ad, e, _⟩ := h3 0 ((E.cells y)[0]'(by omega)) (by rw [List.flatMap_cons, List.getElem?_append_left (by omega)]; simp)
          cases e
    subst hm
    have hy : ys = [] := List.eq_nil_of_length_eq_zero h1
    subst hy
    obtain rfl := h2 rfl
    exact ⟨A, c, w, run_append_owned_none (P := Try.prog) w B TS ty T i0 E.size hu hi0 _ n _ hown, by simpa [MineE] using hown, World.grownBy.refl w _, .inl rfl⟩
  | some ad =>
    have hcells : ∀ j u, (ys.flatMap E.cells)[j]? = some u → w.cell? (ad.add j) = some u := by
      intro j u hu
      obtain ⟨ad', e, hc⟩ := h3 j u hu
      obtain rfl := Option.some.inj e
      exact hc
    have hbn : (n + m) * bytes ≤ 1000000 * 10000 := Nat.mul_le_mul hlen hb2
    obtain ⟨v', w', hrun, g2, g3, _, g5⟩ := run_append_own_at (P := Try.prog) w B TS ty T i0 z E.size bytes hu hi0 hz0 hz1 hz2 hzc E.pos _ n _ hown ad m c2 _ (by rw [E.flat_len, h1]) hcells
      (E.flat_cells ys) (by simp only [maxLen]; omega) (by omega) hB
    obtain ⟨A', c', rfl⟩ := shapeE g2
    refine ⟨A', c', w', hrun, ?_, ?_, ?_⟩
    · unfold MineE; rw [List.flatMap_append]; exact g2
    · rw [ownBlock_blk] at g3; exact g3
    · rw [ownBlock_blk, ownBlock_blk] at g5; exact g5

theorem wpList_append_E {E : Enc α} {T TS : TypeId} {bytes : Nat} (hb2 : bytes ≤ 10000) (hT : InfoE E T TS bytes) (w : World) {ops : Array Oper} {rest : List Oper} {o : Oper} {a : Act} {Q : Exit → Act → World → Prop} (hgd : o.guard = none) (s x : Operand)
    (ho : o.op = .call { callee := .builtin .append, args := #[s, x], argTypes := #[TS, TS] })
    (B : Nat) (A : Option Addr) (n c : Nat) (xs : List α) (hs : a.eval s = .slice A n c) (hown : MineE E T w B A n c xs) (A2 : Option Addr) (m c2 : Nat) (ys : List α) (hx : a.eval x = .slice A2 m c2) (hsrc : SrcE E w A2 m c2 ys)
    (hlen : n + m ≤ 1000000) (hB : B ≤ w.heap.size)
    (h : ∀ A' c' w', AppendedE E T w B A n xs ys m A' c' w' → wpList Try.prog ops Q rest (a.put o.dst (.slice A' (n + m) c')) w') : wpList Try.prog ops Q (o :: rest) a w := by
  refine wpList_plain hgd fun _ hK => ?_
  obtain ⟨A', c', w', hr, h2⟩ := run_append_E E hb2 hT o.type w B A n c xs hown A2 m c2 ys hsrc hlen hB
  unfold Oper.wp execOp
  simp only [ho, resolve, invoke, builtin, Sem.run_bind, Sem.run_pure, Result.andThen_ok, List.map_toArray, List.map_cons, List.map_nil, hs, hx, hr]
  exact hK _ _ (h A' c' w' h2)

/-- What a block of cells gives to be appended. -/
theorem srcE_of (w : World) (a : α) (T : TypeId) (g : Nat) (h : w.heap[g]? = some (.cells (E.cells a).toArray T)) : SrcE E w (some ⟨g, 0, none⟩) 1 1 [a] := by
  refine ⟨rfl, fun e => (by cases e), fun j u hu => ⟨_, rfl, ?_⟩⟩
  have hu' : (E.cells a)[j]? = some u := by simpa using hu
  have hadd : (⟨g, 0, none⟩ : Addr).add j = ⟨g, j, none⟩ := by unfold Addr.add; split <;> simp_all
  rw [hadd, cell_of_row w g j _ _ _ h]
  simpa using hu'

theorem MineE.src {E : Enc α} {T : TypeId} {w : World} {B : Nat} {A : Option Addr} {n c : Nat} {xs : List α} (h : MineE E T w B A n c xs) : SrcE E w A n c xs := by
  refine ⟨h.len, fun e => ?_, fun j u hu => ?_⟩
  · subst e
    rcases h.2 with ⟨e, _⟩ | ⟨g', cap', cur, e, _⟩
    · injection e
    · simp at e
  · have hj := (List.getElem?_eq_some_iff.1 hu).1
    rw [E.flat_len, h.len] at hj
    have hn : 0 < n := by
      rcases Nat.eq_zero_or_pos n with e | e
      · subst e; simp at hj
      · exact e
    obtain ⟨g, rfl, _⟩ := h.form hn
    exact ⟨_, rfl, World.ownsRow.cells h (g := g) rfl j u hu⟩

theorem emptyE_mine (T : TypeId) (w : World) (B : Nat) (hB : B ≤ w.heap.size) : MineE E T (w.alloc (.cells #[] T)) B (some ⟨w.heap.size, 0, none⟩) 0 0 [] :=
  World.ownsRow_lit w #[] 0 hB (by unfold maxLen; omega) (by simp)

theorem oneE_src (w : World) (a : α) (T : TypeId) : SrcE E (w.alloc (.cells (E.cells a).toArray T)) (some ⟨w.heap.size, 0, none⟩) 1 1 [a] := by
  have hm : (w.alloc (.cells (E.cells a).toArray T)).ownsRow 0 T E.size (.slice (some ⟨w.heap.size, 0, none⟩) 1 1) 1 (E.cells a) := by
    have := World.ownsRow_lit (e := T) (size := E.size) (base := 0) w (E.cells a).toArray 1 (Nat.zero_le _) (by unfold maxLen; omega) (by simp [E.len])
    simpa using this
  refine ⟨rfl, fun e => (by cases e), fun j u hu => ?_⟩
  have hu' : (E.cells a)[j]? = some u := by simpa using hu
  exact ⟨_, rfl, World.ownsRow.cells hm (g := w.heap.size) rfl j u hu'⟩

theorem noneE_mine (T : TypeId) (w : World) (B : Nat) : MineE E T w B none 0 0 [] := World.ownsRow_nil w B T E.size

theorem AppendedE.below {E : Enc α} {T : TypeId} {w W : World} {B C : Nat} {A : Option Addr} {n c : Nat} {xs ys : List α} {m : Nat} {A' : Option Addr} {c' : Nat} {w' : World}
    (h : AppendedE E T w B A n xs ys m A' c' w') (hown : MineE E T w B A n c xs) (hw : Below C W w) (hC : C ≤ B) (hB : C ≤ w.heap.size) : Below C W w' :=
  hw.grown h.2.1 hB (fun k hk => by have := (hown.lt k hk).1; omega)

end

end Go.Proofs.Ytpfcefflcmeobaa.More
