/- Texts of this proof that follow each other, in one file. -/
import Derived.Test.YtdibdfalahjmbaaPart1
import Derived.OneCell
import Derived.Maps.AppendAt
import Derived.Deep.AppendLies
import Derived.Deep.RegionLaw
import Derived.Laws.OwnMore
import Derived.Test.YtdibdfalahjmbaaPart7
import Derived.Test.YtdibdfalahjmbaaPart6
import Derived.Lib.AppendZerosOnto
import Derived.Lib.Overlaps
import Derived.Laws.Externs
/-! Appending to a list of numbers of one's own, whatever is appended. -/
namespace Go.Proofs.Ytdibdfalahjmbaa
open Go.RowKit

/-- The block in which a slice lies, if it lies somewhere. -/
def blk : Option Addr → Option Nat
  | some a => some a.block
  | none => none

theorem ownBlock_blk (A : Option Addr) (n c : Nat) : (Value.slice A n c).ownBlock = blk A := by cases A <;> rfl

/-- A slice of one's own, of numbers. -/
def Mine (w : World) (B : Nat) (A : Option Addr) (n c : Nat) (xs : List Int) : Prop :=
  w.ownsRow B 3 1 (.slice A n c) n (xs.map (Value.int .i64))

theorem mine_shape {w : World} {B : Nat} {v : Value} {n : Nat} {xs : List Value} (h : w.ownsRow B 3 1 v n xs) : ∃ A c, v = .slice A n c := by
  rcases h.2 with ⟨rfl, rfl⟩ | ⟨g, cap, cur, rfl, _⟩
  · exact ⟨none, 0, rfl⟩
  · exact ⟨_, _, rfl⟩

theorem Mine.len {w : World} {B : Nat} {A : Option Addr} {n c : Nat} {xs : List Int} (h : Mine w B A n c xs) : xs.length = n := by
  have := h.1; simpa using this

theorem Mine.lt {w : World} {B : Nat} {A : Option Addr} {n c : Nat} {xs : List Int} (h : Mine w B A n c xs) : ∀ k, blk A = some k → B ≤ k ∧ k < w.heap.size := by
  intro k hk
  exact World.ownsRow.lt h k (by rw [ownBlock_blk]; exact hk)

theorem Mine.kept {w w' : World} {B : Nat} {A : Option Addr} {n c : Nat} {xs : List Int} {row : Option Nat} (h : Mine w B A n c xs) (hg : w.grownBy w' row) (hne : ∀ k, blk A = some k → row ≠ some k) : Mine w' B A n c xs := by
  refine World.ownsRow.kept h hg ?_
  rw [ownBlock_blk]
  cases hb : blk A with
  | none => exact .inl rfl
  | some k => exact .inr fun e => hne k hb e.symm

theorem grown_of_below {w w' : World} (h : Below w.heap.size w w') : w.grownBy w' none := ⟨h.os, h.tape, h.output, h.size, fun k hk _ => h.block k hk⟩

theorem Mine.below {w w' : World} {B : Nat} {A : Option Addr} {n c : Nat} {xs : List Int} (h : Mine w B A n c xs) (hb : Below w.heap.size w w') : Mine w' B A n c xs :=
  h.kept (grown_of_below hb) (fun k _ e => by cases e)

theorem Mine.cell {w : World} {B : Nat} {A : Option Addr} {n c : Nat} {xs : List Int} (h : Mine w B A n c xs) (k : Nat) (hk : k < xs.length) :
    ∃ g, A = some ⟨g, 0, none⟩ ∧ g < w.heap.size ∧ n ≤ c ∧ w.cell? ((⟨g, 0, none⟩ : Addr).add k) = some (.int .i64 (xs.getD k 0)) := by
  have hl := h.len
  obtain ⟨g, cap, hv, _, hg⟩ := World.ownsRow.form h (by omega)
  have hA : A = some ⟨g, 0, none⟩ := by injection hv
  subst hA
  refine ⟨g, rfl, hg, ?_, World.ownsRow.cells h (g := g) rfl k _ (by simp [List.getD, hk])⟩
  rcases h.2 with ⟨e, _⟩ | ⟨g', cap', cur, e, _, _, hc, _⟩
  · simp at e
  · injection e with e1 e2 e3
    omega

/-- What is appended: m numbers of a slice, nil or not. -/
def Src (w : World) (A : Option Addr) (m c : Nat) (ys : List Int) : Prop :=
  ys.length = m ∧ (A = none → c = 0) ∧ ∀ k, k < ys.length → ∃ ad : Addr, A = some ad ∧ w.cell? (ad.add k) = some (.int .i64 (ys.getD k 0))

theorem Mine.src {w : World} {B : Nat} {A : Option Addr} {n c : Nat} {xs : List Int} (h : Mine w B A n c xs) : Src w A n c xs := by
  refine ⟨h.len, fun e => ?_, fun k hk => ?_⟩
  · subst e
    rcases h.2 with ⟨e, _⟩ | ⟨g', cap', cur, e, _⟩
    · injection e
    · simp at e
  · obtain ⟨g, e, _, _, hc⟩ := h.cell k hk
    exact ⟨_, e, hc⟩

theorem int_info : (Try.prog.info? 3).map (fun i => (i.zero, i.size, i.bytes)) = some (some (.int .i64 0), 1, 8) := by kernel_rfl

theorem int_cells (ys : List Int) : ∀ u ∈ ys.map (Value.int .i64), u.oneCell' = true := by
  intro u hu
  rw [List.mem_map] at hu
  obtain ⟨n, _, rfl⟩ := hu
  rfl

/-- What an append leaves. -/
def Appended (w : World) (B : Nat) (A : Option Addr) (n : Nat) (xs ys : List Int) (m : Nat) (A' : Option Addr) (c' : Nat) (w' : World) : Prop :=
  Mine w' B A' (n + m) c' (xs ++ ys) ∧ w.grownBy w' (blk A) ∧ (blk A' = blk A ∨ blk A' = some w.heap.size)

set_option maxRecDepth 100000 in
theorem run_append_mine (ty : TypeId) (w : World) (B : Nat) (A : Option Addr) (n c : Nat) (xs : List Int) (hown : Mine w B A n c xs) (A2 : Option Addr) (m c2 : Nat) (ys : List Int) (hs : Src w A2 m c2 ys)
    (hlen : n + m ≤ 1000000) (hB : B ≤ w.heap.size) :
    ∃ A' c' w', (Builtin.append_ #[65, 65] ty #[.slice A n c, .slice A2 m c2]).run Try.prog w = .ok (.slice A' (n + m) c') w' ∧ Appended w B A n xs ys m A' c' w' := by
  obtain ⟨i0, hi0, hz0, hz1, hz2⟩ := info_parts int_info
  obtain ⟨h1, h2, h3⟩ := hs
  cases A2 with
  | none =>
    have hm : m = 0 := by
      rcases Nat.eq_zero_or_pos m with h | h
      · exact h
      · obtain ⟨ad, e, _⟩ := h3 0 (by omega)
        cases e
    subst hm
    have hy : ys = [] := List.eq_nil_of_length_eq_zero h1
    subst hy
    obtain rfl := h2 rfl
    exact ⟨A, c, w, run_append_owned_none (P := Try.prog) w B 65 ty 3 i0 1 Try.underlying65 hi0 _ n _ hown, by simpa using hown, World.grownBy.refl w _, .inl rfl⟩
  | some ad =>
    have hcells : ∀ j u, (ys.map (Value.int .i64))[j]? = some u → w.cell? (ad.add j) = some u := by
      intro j u hu
      rw [List.getElem?_map] at hu
      rcases Nat.lt_or_ge j ys.length with hj | hj
      · obtain ⟨ad', e, hc⟩ := h3 j hj
        injection e with e
        subst e
        rw [hc]
        simpa [List.getD, hj] using hu
      · rw [List.getElem?_eq_none hj] at hu
        simp at hu
    obtain ⟨v', w', hrun, g2, g3, _, g5⟩ := run_append_own_at (P := Try.prog) w B 65 ty 3 i0 (.int .i64 0) 1 8 Try.underlying65 hi0 hz0 hz1 hz2 rfl (by omega) _ n _ hown ad m c2 _ (by simpa using h1) hcells
      (int_cells ys) (by simp only [maxLen]; omega) (by omega) hB
    obtain ⟨A', c', rfl⟩ := mine_shape g2
    refine ⟨A', c', w', hrun, ?_, ?_, ?_⟩
    · unfold Mine; rw [List.map_append]; exact g2
    · rw [ownBlock_blk] at g3; exact g3
    · rw [ownBlock_blk, ownBlock_blk] at g5; exact g5

theorem wp_append_mine (w : World) {o : Oper} {a : Act} {K : Act → World → Prop} {Q : Exit → Act → World → Prop} (s x : Operand)
    (ho : o.op = .call { callee := .builtin .append, args := #[s, x], argTypes := #[65, 65] })
    (B : Nat) (A : Option Addr) (n c : Nat) (xs : List Int) (hs : a.eval s = .slice A n c) (hown : Mine w B A n c xs) (A2 : Option Addr) (m c2 : Nat) (ys : List Int) (hx : a.eval x = .slice A2 m c2) (hsrc : Src w A2 m c2 ys)
    (hlen : n + m ≤ 1000000) (hB : B ≤ w.heap.size)
    (h : ∀ A' c' w', Appended w B A n xs ys m A' c' w' → K (a.put o.dst (.slice A' (n + m) c')) w') : o.wp Try.prog a w K Q := by
  obtain ⟨A', c', w', hr, h2⟩ := run_append_mine o.type w B A n c xs hown A2 m c2 ys hsrc hlen hB
  unfold Oper.wp execOp
  simp only [ho, resolve, invoke, builtin, Sem.run_bind, Sem.run_pure, Result.andThen_ok, List.map_toArray, List.map_cons, List.map_nil, hs, hx, hr]
  exact h A' c' w' h2

theorem wpList_append_mine (w : World) {ops : Array Oper} {rest : List Oper} {o : Oper} {a : Act} {Q : Exit → Act → World → Prop} (hgd : o.guard = none) (s x : Operand)
    (ho : o.op = .call { callee := .builtin .append, args := #[s, x], argTypes := #[65, 65] })
    (B : Nat) (A : Option Addr) (n c : Nat) (xs : List Int) (hs : a.eval s = .slice A n c) (hown : Mine w B A n c xs) (A2 : Option Addr) (m c2 : Nat) (ys : List Int) (hx : a.eval x = .slice A2 m c2) (hsrc : Src w A2 m c2 ys)
    (hlen : n + m ≤ 1000000) (hB : B ≤ w.heap.size)
    (h : ∀ A' c' w', Appended w B A n xs ys m A' c' w' → wpList Try.prog ops Q rest (a.put o.dst (.slice A' (n + m) c')) w') : wpList Try.prog ops Q (o :: rest) a w :=
  wpList_plain hgd fun _ hK => wp_append_mine w s x ho B A n c xs hs hown A2 m c2 ys hx hsrc hlen hB fun A' c' w' h2 => hK _ _ (h A' c' w' h2)

theorem step_append_mine (w : World) {ops : Array Oper} {o : Oper} {a : Act} {K : Act → World → Prop} {Q : Exit → Act → World → Prop} {E : Prop} (hgd : o.guard = none) (s x : Operand)
    (ho : o.op = .call { callee := .builtin .append, args := #[s, x], argTypes := #[65, 65] })
    (B : Nat) (A : Option Addr) (n c : Nat) (xs : List Int) (hs : a.eval s = .slice A n c) (hown : Mine w B A n c xs) (A2 : Option Addr) (m c2 : Nat) (ys : List Int) (hx : a.eval x = .slice A2 m c2) (hsrc : Src w A2 m c2 ys)
    (hlen : n + m ≤ 1000000) (hB : B ≤ w.heap.size)
    (h : ∀ A' c' w', Appended w B A n xs ys m A' c' w' → K (a.put o.dst (.slice A' (n + m) c')) w') :
    if Region.wanted o (yielded ops a.tmps) = true then Oper.wp Try.prog o a w K Q else E := by
  have hw : Region.wanted o (yielded ops a.tmps) = true := by simp [Region.wanted, hgd]
  rw [if_pos hw]
  exact wp_append_mine w s x ho B A n c xs hs hown A2 m c2 ys hx hsrc hlen hB h

theorem one_src (w : World) (n : Int) : Src (w.alloc (.cells #[.int .i64 n] 3)) (some ⟨w.heap.size, 0, none⟩) 1 1 [n] := by
  refine ⟨rfl, fun e => (by cases e), fun k hk => ?_⟩
  simp only [List.length_cons, List.length_nil] at hk
  obtain rfl : k = 0 := by omega
  exact ⟨_, rfl, cell_one_new w (.int .i64 n) 3 0 _ rfl⟩

theorem one_mine (w : World) (B : Nat) (hB : B ≤ w.heap.size) (n : Int) : Mine (w.alloc (.cells #[.int .i64 n] 3)) B (some ⟨w.heap.size, 0, none⟩) 1 1 [n] :=
  World.ownsRow_lit w #[.int .i64 n] 1 hB (by unfold maxLen; omega) rfl

theorem Mine.alloc {w : World} {B : Nat} {A : Option Addr} {n c : Nat} {xs : List Int} (h : Mine w B A n c xs) (o : Obj) : Mine (w.alloc o) B A n c xs :=
  World.ownsRow.alloc h o

theorem Appended.below {w W : World} {B C : Nat} {A : Option Addr} {n c : Nat} {xs ys : List Int} {m : Nat} {A' : Option Addr} {c' : Nat} {w' : World}
    (h : Appended w B A n xs ys m A' c' w') (hown : Mine w B A n c xs) (hw : Below C W w) (hC : C ≤ B) (hB : C ≤ w.heap.size) : Below C W w' :=
  hw.grown h.2.1 hB (fun k hk => by have := (hown.lt k hk).1; omega)

theorem none_mine (w : World) (B : Nat) (hB : B ≤ w.heap.size) : Mine (w.alloc (.cells #[] 3)) B (some ⟨w.heap.size, 0, none⟩) 0 0 [] :=
  World.ownsRow_lit w #[] 0 hB (by unfold maxLen; omega) rfl

theorem Src.grown {w w' : World} {b m c : Nat} {ys : List Int} {row : Option Nat} (h : Src w (some ⟨b, 0, none⟩) m c ys) (hg : w.grownBy w' row) (hne : row ≠ some b) : Src w' (some ⟨b, 0, none⟩) m c ys := by
  obtain ⟨h1, h2, h3⟩ := h
  refine ⟨h1, h2, fun k hk => ?_⟩
  obtain ⟨ad, e, hc⟩ := h3 k hk
  injection e with e
  subst e
  exact ⟨_, rfl, hg.cell hc (by rw [block_of_add]; exact fun e => hne e.symm)⟩

theorem Src.alloc {w : World} {b m c : Nat} {ys : List Int} (h : Src w (some ⟨b, 0, none⟩) m c ys) (o : Obj) : Src (w.alloc o) (some ⟨b, 0, none⟩) m c ys :=
  h.grown (World.grownBy_alloc w o none) (fun e => by cases e)

theorem Src.drew {w : World} {A : Option Addr} {m c : Nat} {ys : List Int} (h : Src w A m c ys) : Src w.drew A m c ys := h
theorem Mine.drew {w : World} {B : Nat} {A : Option Addr} {n c : Nat} {xs : List Int} (h : Mine w B A n c xs) : Mine w.drew B A n c xs := h

theorem Mine.nums {w : World} {B : Nat} {A : Option Addr} {n c : Nat} {xs : List Int} (h : Mine w B A n c xs) : Nums w w.heap.size A xs := fun k hk => by
  obtain ⟨g, e, hg, _, hc⟩ := h.cell k hk
  exact ⟨_, e, hg, hc⟩

end Go.Proofs.Ytdibdfalahjmbaa

/-! Lists of one's own of whatever lies in several cells (structs of numbers): read, appended to, and turned in place. -/
namespace Go.Proofs.Ytdibdfalahjmbaa.More
open Go.RowKit

/-- How the values of a kind lie in cells. -/
structure Enc (α : Type) where
  size : Nat
  cells : α → List Value
  len : ∀ a, (cells a).length = size
  one : ∀ a, ∀ u ∈ cells a, u.oneCell' = true
  pos : 0 < size

section
variable {α : Type} (E : Enc α)

theorem Enc.flat_len (xs : List α) : (xs.flatMap E.cells).length = xs.length * E.size := by
  induction xs with
  | nil => simp
  | cons x xs ih => simp only [List.flatMap_cons, List.length_append, E.len, ih, List.length_cons, Nat.add_mul, Nat.one_mul]; omega

theorem Enc.flat_at (xs : List α) : ∀ (k : Nat) (a : α), xs[k]? = some a → ∀ j, j < E.size → (xs.flatMap E.cells)[k * E.size + j]? = (E.cells a)[j]? := by
  induction xs with
  | nil => intro k a h; simp at h
  | cons x xs ih =>
    intro k a h j hj
    rw [List.flatMap_cons]
    cases k with
    | zero =>
      obtain rfl : x = a := by simpa using h
      rw [Nat.zero_mul, Nat.zero_add, List.getElem?_append_left (by rw [E.len]; exact hj)]
    | succ k =>
      have e : (k + 1) * E.size + j - E.size = k * E.size + j := by rw [Nat.add_mul, Nat.one_mul]; omega
      rw [List.getElem?_append_right (by rw [E.len, Nat.add_mul, Nat.one_mul]; omega), E.len, e]
      exact ih k a (by simpa using h) j hj

theorem Enc.flat_set (xs : List α) : ∀ (k : Nat) (a a' : α) (j : Nat) (u : Value), xs[k]? = some a → j < E.size → E.cells a' = (E.cells a).set j u → (xs.flatMap E.cells).set (k * E.size + j) u = (xs.set k a').flatMap E.cells := by
  induction xs with
  | nil => intro k a a' j u h; simp at h
  | cons x xs ih =>
    intro k a a' j u h hj hc
    cases k with
    | zero =>
      obtain rfl : x = a := by simpa using h
      rw [List.flatMap_cons, Nat.zero_mul, Nat.zero_add, List.set_append_left _ _ (by rw [E.len]; exact hj), List.set_cons_zero, List.flatMap_cons, hc]
    | succ k =>
      have e : (k + 1) * E.size + j - E.size = k * E.size + j := by rw [Nat.add_mul, Nat.one_mul]; omega
      rw [List.flatMap_cons, List.set_append_right _ _ (by rw [E.len, Nat.add_mul, Nat.one_mul]; omega), E.len, e, List.set_cons_succ, List.flatMap_cons]
      congr 1
      exact ih k a a' j u (by simpa using h) hj hc

theorem Enc.flat_cells (xs : List α) : ∀ u ∈ xs.flatMap E.cells, u.oneCell' = true := by
  intro u hu
  rw [List.mem_flatMap] at hu
  obtain ⟨a, _, h⟩ := hu
  exact E.one a u h

/-- A slice of one's own. -/
def MineE (T : TypeId) (w : World) (B : Nat) (A : Option Addr) (n c : Nat) (xs : List α) : Prop :=
  w.ownsRow B T E.size (.slice A n c) n (xs.flatMap E.cells)

theorem shapeE {T : TypeId} {w : World} {B : Nat} {s : Nat} {v : Value} {n : Nat} {xs : List Value} (h : w.ownsRow B T s v n xs) : ∃ A c, v = .slice A n c := by
  rcases h.2 with ⟨rfl, rfl⟩ | ⟨g, cap, cur, rfl, _⟩
  · exact ⟨none, 0, rfl⟩
  · exact ⟨_, _, rfl⟩

section
variable {E} {T : TypeId} {w w' : World} {B : Nat} {A : Option Addr} {n c : Nat} {xs : List α}

theorem MineE.len (h : MineE E T w B A n c xs) : xs.length = n := by
  have := h.1
  rw [E.flat_len] at this
  exact Nat.eq_of_mul_eq_mul_right E.pos this

theorem MineE.lt (h : MineE E T w B A n c xs) : ∀ k, blk A = some k → B ≤ k ∧ k < w.heap.size := by
  intro k hk
  exact World.ownsRow.lt h k (by rw [ownBlock_blk]; exact hk)

theorem MineE.mono {C : Nat} (h : MineE E T w B A n c xs) (hC : C ≤ B) : MineE E T w C A n c xs := by
  refine ⟨h.1, ?_⟩
  rcases h.2 with h | ⟨g, cap, cur, e, hb, r⟩
  · exact .inl h
  · exact .inr ⟨g, cap, cur, e, by omega, r⟩

theorem MineE.kept {row : Option Nat} (h : MineE E T w B A n c xs) (hg : w.grownBy w' row) (hne : ∀ k, blk A = some k → row ≠ some k) : MineE E T w' B A n c xs := by
  refine World.ownsRow.kept h hg ?_
  rw [ownBlock_blk]
  cases hb : blk A with
  | none => exact .inl rfl
  | some k => exact .inr fun e => hne k hb e.symm

theorem MineE.below (h : MineE E T w B A n c xs) (hb : Below w.heap.size w w') : MineE E T w' B A n c xs :=
  h.kept (grown_of_below hb) (fun k _ e => by cases e)

theorem MineE.alloc (h : MineE E T w B A n c xs) (o : Obj) : MineE E T (w.alloc o) B A n c xs := World.ownsRow.alloc h o
theorem MineE.drew (h : MineE E T w B A n c xs) : MineE E T w.drew B A n c xs := h

/-- Where a list lies that has something. -/
theorem MineE.form (h : MineE E T w B A n c xs) (hn : 0 < n) : ∃ g, A = some ⟨g, 0, none⟩ ∧ B ≤ g ∧ g < w.heap.size ∧ n ≤ c ∧ c ≤ maxLen := by
  rcases h.2 with ⟨_, h0⟩ | ⟨g, cap, cur, e, hb, hg, hc, hm, _⟩
  · omega
  · injection e with e1 e2 e3
    subst e1 e3
    exact ⟨g, rfl, hb, (Array.getElem?_eq_some_iff.1 hg).1, hc, hm⟩

theorem MineE.at {g : Nat} (h : MineE E T w B (some ⟨g, 0, none⟩) n c xs) (k : Nat) (a : α) (ha : xs[k]? = some a) (j : Nat) (hj : j < E.size) : w.cell? ⟨g, k * E.size + j, none⟩ = (E.cells a)[j]? := by
  have hl := h.len
  have hk := (List.getElem?_eq_some_iff.1 ha).1
  have h1 : k * E.size + j < n * E.size := by
    have h2 : (k + 1) * E.size ≤ n * E.size := Nat.mul_le_mul_right _ (by omega)
    rw [Nat.add_mul, Nat.one_mul] at h2
    omega
  rw [World.ownsRow.cellAt h _ h1, E.flat_at xs k a ha j hj]

theorem MineE.frozen {g : Nat} (h : MineE E T w B (some ⟨g, 0, none⟩) n c xs) (j : Nat) : w.frozen? ⟨g, j, none⟩ = false := World.ownsRow.frozenAt h j

/-- One cell of one of them is turned. -/
theorem MineE.stored {g : Nat} (h : MineE E T w B (some ⟨g, 0, none⟩) n c xs) (k : Nat) (a a' : α) (ha : xs[k]? = some a) (j : Nat) (hj : j < E.size) (u : Value) (hc : E.cells a' = (E.cells a).set j u) :
    MineE E T (w.setCell ⟨g, k * E.size + j, none⟩ u) B (some ⟨g, 0, none⟩) n c (xs.set k a') ∧ w.grownBy (w.setCell ⟨g, k * E.size + j, none⟩ u) (some g) := by
  obtain ⟨h1, h2⟩ := World.ownsRow.stored h (k * E.size + j) u
  refine ⟨?_, h2⟩
  unfold MineE
  rw [← E.flat_set xs k a a' j u ha hj hc]
  exact h1

end

/-- What is appended: m of them, of a slice, nil or not. -/
def SrcE (w : World) (A : Option Addr) (m c : Nat) (ys : List α) : Prop :=
  ys.length = m ∧ (A = none → c = 0) ∧ ∀ j u, (ys.flatMap E.cells)[j]? = some u → ∃ ad : Addr, A = some ad ∧ w.cell? (ad.add j) = some u

/-- What the model knows of a type. -/
def InfoE (T TS : TypeId) (bytes : Nat) : Prop :=
  Try.prog.underlying TS = some (.slice T) ∧ ∃ z : Value, z.cells.size = E.size ∧ (Try.prog.info? T).map (fun i => (i.zero, i.size, i.bytes)) = some (some z, E.size, bytes)

/-- What an append leaves. -/
def AppendedE (T : TypeId) (w : World) (B : Nat) (A : Option Addr) (n : Nat) (xs ys : List α) (m : Nat) (A' : Option Addr) (c' : Nat) (w' : World) : Prop :=
  MineE E T w' B A' (n + m) c' (xs ++ ys) ∧ w.grownBy w' (blk A) ∧ (blk A' = blk A ∨ blk A' = some w.heap.size)

theorem run_append_E {T TS : TypeId} {bytes : Nat} (hb2 : bytes ≤ 10000) (hT : InfoE E T TS bytes) (ty : TypeId) (w : World) (B : Nat) (A : Option Addr) (n c : Nat) (xs : List α) (hown : MineE E T w B A n c xs) (A2 : Option Addr) (m c2 : Nat) (ys : List α) (hs : SrcE E w A2 m c2 ys)
    (hlen : n + m ≤ 1000000) (hB : B ≤ w.heap.size) :
    ∃ A' c' w', (Builtin.append_ #[TS, TS] ty #[.slice A n c, .slice A2 m c2]).run Try.prog w = .ok (.slice A' (n + m) c') w' ∧ AppendedE E T w B A n xs ys m A' c' w' := by
  obtain ⟨hu, z, hzc, hinfo⟩ := hT
  obtain ⟨i0, hi0, hz0, hz1, hz2⟩ := info_parts hinfo
  obtain ⟨h1, h2, h3⟩ := hs
  cases A2 with
  | none =>
    have hm : m = 0 := by
      rcases Nat.eq_zero_or_pos m with h | h
      · exact h
      · cases ys with
        | nil => simp at h1; omega
        | cons y ys =>
          have hp := E.pos
          have hl := E.len y
          obtain ⟨ad, e, _⟩ := h3 0 ((E.cells y)[0]'(by omega)) (by rw [List.flatMap_cons, List.getElem?_append_left (by omega)]; simp)
          cases e
    subst hm
    have hy : ys = [] := List.eq_nil_of_length_eq_zero h1
    subst hy
    obtain rfl := h2 rfl
    exact ⟨A, c, w, run_append_owned_none (P := Try.prog) w B TS ty T i0 E.size hu hi0 _ n _ hown, by simpa [MineE] using hown, World.grownBy.refl w _, .inl rfl⟩
  | some ad =>
    have hcells : ∀ j u, (ys.flatMap E.cells)[j]? = some u → w.cell? (ad.add j) = some u := by
      intro j u hu
      obtain ⟨ad', e, hc⟩ := h3 j u hu
      obtain rfl := Option.some.inj e
      exact hc
    have hbn : (n + m) * bytes ≤ 1000000 * 10000 := Nat.mul_le_mul hlen hb2
    obtain ⟨v', w', hrun, g2, g3, _, g5⟩ := run_append_own_at (P := Try.prog) w B TS ty T i0 z E.size bytes hu hi0 hz0 hz1 hz2 hzc E.pos _ n _ hown ad m c2 _ (by rw [E.flat_len, h1]) hcells
      (E.flat_cells ys) (by simp only [maxLen]; omega) (by omega) hB
    obtain ⟨A', c', rfl⟩ := shapeE g2
    refine ⟨A', c', w', hrun, ?_, ?_, ?_⟩
    · unfold MineE; rw [List.flatMap_append]; exact g2
    · rw [ownBlock_blk] at g3; exact g3
    · rw [ownBlock_blk, ownBlock_blk] at g5; exact g5

theorem wpList_append_E {E : Enc α} {T TS : TypeId} {bytes : Nat} (hb2 : bytes ≤ 10000) (hT : InfoE E T TS bytes) (w : World) {ops : Array Oper} {rest : List Oper} {o : Oper} {a : Act} {Q : Exit → Act → World → Prop} (hgd : o.guard = none) (s x : Operand)
    (ho : o.op = .call { callee := .builtin .append, args := #[s, x], argTypes := #[TS, TS] })
    (B : Nat) (A : Option Addr) (n c : Nat) (xs : List α) (hs : a.eval s = .slice A n c) (hown : MineE E T w B A n c xs) (A2 : Option Addr) (m c2 : Nat) (ys : List α) (hx : a.eval x = .slice A2 m c2) (hsrc : SrcE E w A2 m c2 ys)
    (hlen : n + m ≤ 1000000) (hB : B ≤ w.heap.size)
    (h : ∀ A' c' w', AppendedE E T w B A n xs ys m A' c' w' → wpList Try.prog ops Q rest (a.put o.dst (.slice A' (n + m) c')) w') : wpList Try.prog ops Q (o :: rest) a w := by
  refine wpList_plain hgd fun _ hK => ?_
  obtain ⟨A', c', w', hr, h2⟩ := run_append_E E hb2 hT o.type w B A n c xs hown A2 m c2 ys hsrc hlen hB
  unfold Oper.wp execOp
  simp only [ho, resolve, invoke, builtin, Sem.run_bind, Sem.run_pure, Result.andThen_ok, List.map_toArray, List.map_cons, List.map_nil, hs, hx, hr]
  exact hK _ _ (h A' c' w' h2)

/-- What a block of cells gives to be appended. -/
theorem srcE_of (w : World) (a : α) (T : TypeId) (g : Nat) (h : w.heap[g]? = some (.cells (E.cells a).toArray T)) : SrcE E w (some ⟨g, 0, none⟩) 1 1 [a] := by
  refine ⟨rfl, fun e => (by cases e), fun j u hu => ⟨_, rfl, ?_⟩⟩
  have hu' : (E.cells a)[j]? = some u := by simpa using hu
  have hadd : (⟨g, 0, none⟩ : Addr).add j = ⟨g, j, none⟩ := by unfold Addr.add; split <;> simp_all
  rw [hadd, cell_of_row w g j _ _ _ h]
  simpa using hu'

theorem MineE.src {E : Enc α} {T : TypeId} {w : World} {B : Nat} {A : Option Addr} {n c : Nat} {xs : List α} (h : MineE E T w B A n c xs) : SrcE E w A n c xs := by
  refine ⟨h.len, fun e => ?_, fun j u hu => ?_⟩
  · subst e
    rcases h.2 with ⟨e, _⟩ | ⟨g', cap', cur, e, _⟩
    · injection e
    · simp at e
  · have hj := (List.getElem?_eq_some_iff.1 hu).1
    rw [E.flat_len, h.len] at hj
    have hn : 0 < n := by
      rcases Nat.eq_zero_or_pos n with e | e
      · subst e; simp at hj
      · exact e
    obtain ⟨g, rfl, _⟩ := h.form hn
    exact ⟨_, rfl, World.ownsRow.cells h (g := g) rfl j u hu⟩

theorem emptyE_mine (T : TypeId) (w : World) (B : Nat) (hB : B ≤ w.heap.size) : MineE E T (w.alloc (.cells #[] T)) B (some ⟨w.heap.size, 0, none⟩) 0 0 [] :=
  World.ownsRow_lit w #[] 0 hB (by unfold maxLen; omega) (by simp)

theorem oneE_src (w : World) (a : α) (T : TypeId) : SrcE E (w.alloc (.cells (E.cells a).toArray T)) (some ⟨w.heap.size, 0, none⟩) 1 1 [a] := by
  have hm : (w.alloc (.cells (E.cells a).toArray T)).ownsRow 0 T E.size (.slice (some ⟨w.heap.size, 0, none⟩) 1 1) 1 (E.cells a) := by
    have := World.ownsRow_lit (e := T) (size := E.size) (base := 0) w (E.cells a).toArray 1 (Nat.zero_le _) (by unfold maxLen; omega) (by simp [E.len])
    simpa using this
  refine ⟨rfl, fun e => (by cases e), fun j u hu => ?_⟩
  have hu' : (E.cells a)[j]? = some u := by simpa using hu
  exact ⟨_, rfl, World.ownsRow.cells hm (g := w.heap.size) rfl j u hu'⟩

theorem noneE_mine (T : TypeId) (w : World) (B : Nat) : MineE E T w B none 0 0 [] := World.ownsRow_nil w B T E.size

theorem AppendedE.below {E : Enc α} {T : TypeId} {w W : World} {B C : Nat} {A : Option Addr} {n c : Nat} {xs ys : List α} {m : Nat} {A' : Option Addr} {c' : Nat} {w' : World}
    (h : AppendedE E T w B A n xs ys m A' c' w') (hown : MineE E T w B A n c xs) (hw : Below C W w) (hC : C ≤ B) (hB : C ≤ w.heap.size) : Below C W w' :=
  hw.grown h.2.1 hB (fun k hk => by have := (hown.lt k hk).1; omega)

end

end Go.Proofs.Ytdibdfalahjmbaa.More

/-! The contract of the document's shelves. -/
namespace Go.Proofs.Ytdibdfalahjmbaa.Shelf
open Go.RowKit Go.Sort Go.Proofs.Ytdibdfalahjmbaa.Rect Go.Proofs.Ytdibdfalahjmbaa.More

def encSh : Enc (Int × (Int × Int)) := ⟨3, fun x => [.int .i64 x.1, .int .i64 x.2.1, .int .i64 x.2.2], fun _ => rfl, fun x u h => by
  simp only [List.mem_cons, List.not_mem_nil, or_false] at h
  rcases h with h | h | h <;> (subst h; rfl), by omega⟩

/-- How much is left: an edge below, or none. -/
def leftM (fs : List Fl) (t o : Value) : Nat := match o with
  | .bool true => 1 + leftN fs (intOf t)
  | _ => 0

end Go.Proofs.Ytdibdfalahjmbaa.Shelf

/-! What is asked of the program's lists of shelves, whatever they look like; the law's Few, and its begin. -/
namespace Go.Proofs.Ytdibdfalahjmbaa.Shelf
open Go.RowKit Go.Sort Go.Proofs.Ytdibdfalahjmbaa.Rect Go.Proofs.Ytdibdfalahjmbaa.More

/-- Is a float not too far away? -/
def nearF (f : Fl) : Bool := [f.l, f.t, f.r, f.b].all inS

theorem near_of {fs : List Fl} (h : fs.all nearF = true) : Near fs := fun f hf => by
  have := List.all_eq_true.1 h f hf
  unfold nearF at this
  simp only [List.all_cons, List.all_nil, Bool.and_true, Bool.and_eq_true] at this
  exact ⟨(inS_iff.1 this.2.1).1, (inS_iff.1 this.2.2.2).2⟩

theorem inS_low {a : Int} (h : inS a = true) : -4503599627370496 ≤ a := by have := inS_iff.1 h; omega
theorem inS_high {a : Int} (h : inS a = true) : a ≤ 4611686018427387904 := by have := inS_iff.1 h; omega

/-- The least top below a row. -/
def afterD (fs : List Fl) (y : Int) : Int × Bool := match (shelvesD fs).find? (fun x => decide (y < x.1)) with
  | some x => (x.1, true)
  | none => (0, false)

/-- The contracts of the program's lists: at p lies one, in blocks from B on, that stands for these floats. -/
structure ListOk (L : World → Nat → Addr → List Fl → Prop) : Prop where
  keep : ∀ w w' B p fs, L w B p fs → Below w.heap.size w w' → L w' B p fs
  new : ∀ w, Calls Try.prog 33 #[] w fun r w' => (∃ p, r = .returned (.pointer (some p)) ∧ L w' w.heap.size p []) ∧ Below w.heap.size w w'
  add : ∀ w B p fs f, L w B p fs → B ≤ w.heap.size → fs.length < 1000 → fs.all nearF = true → nearF f = true → Calls Try.prog 52 #[.pointer (some p), .int .i64 f.s, .agg #[.int .i64 f.l, .int .i64 f.t, .int .i64 f.r, .int .i64 f.b]] w fun r w' => (∃ v, r = .returned v) ∧ L w' B p (fs ++ [f]) ∧ Below B w w'
  band : ∀ w B p fs (a z : Int), L w B p fs → fs.all nearF = true → -4503599627370496 ≤ a → z ≤ 4611686018427387904 → Calls Try.prog 73 #[.pointer (some p), .agg #[.int .i64 a, .int .i64 z]] w fun r w' => r = .returned (.agg #[.int .i64 (bandL fs a z), .int .i64 (bandR fs a z)]) ∧ Below w.heap.size w w'
  after : ∀ w B p fs (y : Int), L w B p fs → fs.all nearF = true → Calls Try.prog 59 #[.pointer (some p), .int .i64 y] w fun r w' => r = .returned (.tuple #[.int .i64 (afterD fs y).1, .bool (afterD fs y).2]) ∧ Below w.heap.size w w'

theorem take_all {fs : List Fl} {k : Nat} {f : Fl} (h : fs[k]? = some f) (ha : (fs.take k).all nearF = true) (hf : nearF f = true) : (fs.take (k + 1)).all nearF = true := by
  rw [List.take_add_one, h, List.all_append, ha]
  simp [hf]
theorem not_all {fs : List Fl} {k : Nat} {f : Fl} (h : fs[k]? = some f) (hf : nearF f = false) : fs.all nearF = false := by
  rw [List.all_eq_false]
  exact ⟨f, List.mem_of_getElem? h, by rw [hf]; simp⟩

section
variable {L : World → Nat → Addr → List Fl → Prop}

end

end Go.Proofs.Ytdibdfalahjmbaa.Shelf

/-! Rows of one's own written to in place: copied into, cleared, appended to ahead of their end; a cut row. -/
namespace Go.Proofs.Ytdibdfalahjmbaa.Shelf
open Go.RowKit Go.Sort Go.Proofs.Ytdibdfalahjmbaa.Rect Go.Proofs.Ytdibdfalahjmbaa.More
set_option linter.unusedVariables false

section
variable {α : Type} {E : Enc α} {T : TypeId} {w w' : World} {B g n c : Nat} {xs : List α}

theorem flat_take (E : Enc α) (xs : List α) (k : Nat) : (xs.take k).flatMap E.cells = (xs.flatMap E.cells).take (k * E.size) := by
  induction xs generalizing k with
  | nil => simp
  | cons x xs ih =>
    cases k with
    | zero => simp
    | succ k =>
      rw [List.take_succ_cons, List.flatMap_cons, List.flatMap_cons, ih, List.take_append, E.len, List.take_of_length_le (l := E.cells x) (by rw [E.len, Nat.add_mul, Nat.one_mul]; omega), Nat.add_mul, Nat.one_mul, Nat.add_sub_cancel]
theorem flat_drop (E : Enc α) (xs : List α) (k : Nat) : (xs.drop k).flatMap E.cells = (xs.flatMap E.cells).drop (k * E.size) := by
  induction xs generalizing k with
  | nil => simp
  | cons x xs ih =>
    cases k with
    | zero => simp
    | succ k =>
      rw [List.drop_succ_cons, List.flatMap_cons, ih, List.drop_append, E.len, List.drop_of_length_le (l := E.cells x) (by rw [E.len, Nat.add_mul, Nat.one_mul]; omega), List.nil_append, Nat.add_mul, Nat.one_mul, Nat.add_sub_cancel]

theorem mine_block (h : MineE E T w B (some ⟨g, 0, none⟩) n c xs) : ∃ cur : Array Value, w.heap[g]? = some (.cells cur T (0, 0)) ∧ B ≤ g ∧ n ≤ c ∧ c ≤ maxLen ∧ cur.size = c * E.size ∧ cur.toList.take (n * E.size) = xs.flatMap E.cells := by
  rcases h.2 with ⟨h', _⟩ | ⟨g', cap', cur, h', hb, hg, hnc, hcm, hcs, htake⟩
  · simp at h'
  · simp only [Value.slice.injEq, Option.some.injEq, Addr.mk.injEq, and_true, true_and] at h'
    obtain ⟨rfl, rfl⟩ := h'
    exact ⟨cur, hg, hb, hnc, hcm, hcs, htake⟩

theorem mine_of {cur : Array Value} (hg : w.heap[g]? = some (.cells cur T (0, 0))) (hb : B ≤ g) (hn : n ≤ c) (hm : c ≤ maxLen) (hs : cur.size = c * E.size) (ht : cur.toList.take (n * E.size) = xs.flatMap E.cells) (hl : xs.length = n) :
    MineE E T w B (some ⟨g, 0, none⟩) n c xs := ⟨by rw [E.flat_len, hl], .inr ⟨g, c, cur, rfl, hb, hg, hn, hm, hs, ht⟩⟩

/-- A row, cut. -/
theorem mine_trunc (h : MineE E T w B (some ⟨g, 0, none⟩) n c xs) {k : Nat} (hk : k ≤ n) : MineE E T w B (some ⟨g, 0, none⟩) k c (xs.take k) := by
  obtain ⟨cur, h1, h2, h3, h4, h5, h6⟩ := mine_block h
  have hl := h.len
  refine mine_of h1 h2 (by omega) h4 h5 ?_ (by rw [List.length_take]; omega)
  rw [flat_take, ← h6, List.take_take, Nat.min_eq_left (Nat.mul_le_mul_right _ hk)]

/-- Some are written over, or behind. -/
theorem mine_splice (h : MineE E T w B (some ⟨g, 0, none⟩) n c xs) (o : Nat) (ys : List α) (ho : o ≤ n) (hc : o + ys.length ≤ c) :
    ∃ w', (storeCells ⟨g, o * E.size, none⟩ (ys.flatMap E.cells)).run Try.prog w = .ok () w' ∧ MineE E T w' B (some ⟨g, 0, none⟩) (max n (o + ys.length)) c (xs.take o ++ ys ++ xs.drop (o + ys.length)) ∧ w.grownBy w' (some g) := by
  obtain ⟨cur, h1, h2, h3, h4, h5, h6⟩ := mine_block h
  have hl := h.len
  have hfl : (ys.flatMap E.cells).length = ys.length * E.size := E.flat_len ys
  have hfit : (o + ys.length) * E.size ≤ c * E.size := Nat.mul_le_mul_right _ hc
  rw [Nat.add_mul] at hfit
  have hst := run_storeCells_at Try.prog g (o * E.size) T (ys.flatMap E.cells) 0 cur w h1 (by rw [hfl, h5]; omega) (E.flat_cells ys)
  rw [Nat.add_zero, hfl] at hst
  refine ⟨_, hst, ?_, ⟨rfl, rfl, rfl, by simp, fun k _ hk => setRow_other w g k _ (fun e => hk (by simp [e]))⟩⟩
  have hos : o * E.size ≤ n * E.size := Nat.mul_le_mul_right _ ho
  have hcl : cur.toList.length = c * E.size := by rw [Array.length_toList]; exact h5
  refine mine_of (setRow_heap w g cur _ T _ h1) h2 (by omega) h4 ?_ ?_ ?_
  · simp only [List.size_toArray, List.length_append, List.length_take, List.length_drop, hcl, hfl]
    omega
  · rw [List.toList_toArray, List.flatMap_append, List.flatMap_append, flat_take, flat_drop, ← h6, List.take_take, Nat.min_eq_left hos]
    have e1 : (cur.toList.take (o * E.size) ++ ys.flatMap E.cells).length = (o + ys.length) * E.size := by
      rw [List.length_append, List.length_take, hcl, hfl, Nat.add_mul]; omega
    rw [List.take_append, e1, List.take_of_length_le (by rw [e1]; exact Nat.mul_le_mul_right _ (by omega)), ← Nat.sub_mul, List.drop_take, ← Nat.sub_mul, ← Nat.add_mul, show max n (o + ys.length) - (o + ys.length) = n - (o + ys.length) by omega]
  · rw [List.length_append, List.length_append, List.length_take, List.length_drop, hl]
    omega

/-- What the model knows of a type's size. -/
theorem info_size {TS : TypeId} {bytes : Nat} (hT : InfoE E T TS bytes) : (Try.prog.info? T).map (·.size) = some E.size ∧ Try.prog.underlying TS = some (.slice T) := by
  obtain ⟨hu, z, _, hi⟩ := hT
  obtain ⟨i0, hi0, h0, h1, h2⟩ := info_parts hi
  exact ⟨by rw [hi0]; simp [h1], hu⟩

/-- copy(d, s) into a row of one's own. -/
theorem run_copy_E {TS : TypeId} {bytes : Nat} (hT : InfoE E T TS bytes) (ty : TypeId) (h : MineE E T w B (some ⟨g, 0, none⟩) n c xs) (o : Nat) (ys : List α) (ho : o ≤ n) (hc : o + ys.length ≤ c) (dLen dCap sLen sCap : Nat) (a : Addr)
    (hl : ys.length = Nat.min sLen dLen) (hsrc : ∀ j u, (ys.flatMap E.cells)[j]? = some u → w.cell? (a.add j) = some u) :
    ∃ w', (Builtin.copy_ #[TS, TS] ty #[.slice (some ⟨g, o * E.size, none⟩) dLen dCap, .slice (some a) sLen sCap]).run Try.prog w = .ok (goInt ys.length) w' ∧
      MineE E T w' B (some ⟨g, 0, none⟩) (max n (o + ys.length)) c (xs.take o ++ ys ++ xs.drop (o + ys.length)) ∧ w.grownBy w' (some g) := by
  obtain ⟨w', h1, h2⟩ := mine_splice h o ys ho hc
  refine ⟨w', ?_, h2⟩
  obtain ⟨hq, hu⟩ := info_size hT
  have hld := run_loadCells_list (P := Try.prog) w a (ys.flatMap E.cells) hsrc
  rw [E.flat_len] at hld
  cases hq' : Try.prog.info? T with
  | none => simp [hq'] at hq
  | some i =>
    have hi : i.size = E.size := by simpa [hq'] using hq
    simp [Builtin.copy_, run_underlying hu, Builtin.lenOf, Builtin.firstCells, sizeOf, typeInfo, hq', hi, ← hl, hld, h1]

theorem zeroCells_flat (E : Enc α) (zr : α) (z : Array Value) (hz : z.toList = E.cells zr) (m : Nat) : (Builtin.zeroCells z m).toList = (List.replicate m zr).flatMap E.cells := by
  have hzs : z.size = E.size := by rw [← E.len zr, ← hz]; simp
  apply List.ext_getElem?
  intro j
  by_cases hj : j < m * E.size
  · have hq : j / E.size < m := (Nat.div_lt_iff_lt_mul E.pos).2 hj
    have hr : j % E.size < E.size := Nat.mod_lt _ E.pos
    have h1 := E.flat_at (List.replicate m zr) (j / E.size) zr (by rw [List.getElem?_replicate, if_pos hq]) (j % E.size) hr
    rw [Nat.mul_comm, Nat.div_add_mod] at h1
    rw [h1, ← hz]
    simp only [Builtin.zeroCells, Array.toList_map, Array.toList_range, List.getElem?_map, hzs]
    rw [List.getElem?_range hj, Option.map_some, getElem!_pos z (j % E.size) (by omega)]
    simp [hzs, hr]
  · rw [List.getElem?_eq_none (by simp [Builtin.zeroCells, hzs]; omega), List.getElem?_eq_none (by rw [E.flat_len, List.length_replicate]; omega)]

/-- clear(s) of a part of a row of one's own. -/
theorem run_clear_E {TS : TypeId} {bytes : Nat} (hT : InfoE E T TS bytes) (ty : TypeId) (zv : Value) (zr : α) (hv : ∀ w, (zeroValue T).run Try.prog w = .ok zv w) (hz : zv.cells.toList = E.cells zr)
    (h : MineE E T w B (some ⟨g, 0, none⟩) n c xs) (o m cc : Nat) (ho : o ≤ n) (hc : o + m ≤ c) (hm : 0 < m) :
    ∃ w', (Builtin.clear_ #[TS] ty #[.slice (some ⟨g, o * E.size, none⟩) m cc]).run Try.prog w = .ok (.tuple #[]) w' ∧
      MineE E T w' B (some ⟨g, 0, none⟩) (max n (o + m)) c (xs.take o ++ List.replicate m zr ++ xs.drop (o + m)) ∧ w.grownBy w' (some g) := by
  obtain ⟨w', h1, h2⟩ := mine_splice h o (List.replicate m zr) ho (by rw [List.length_replicate]; exact hc)
  rw [List.length_replicate] at h2
  refine ⟨w', ?_, h2⟩
  obtain ⟨hq, hu⟩ := info_size hT
  rw [← zeroCells_flat E zr _ hz] at h1
  obtain ⟨k, rfl⟩ : ∃ k, m = k + 1 := ⟨m - 1, by omega⟩
  simp [Builtin.clear_, run_underlying hu, hv, h1]

set_option maxRecDepth 100000 in
/-- append(s[:i], ..) where there is room: in place. -/
theorem run_append_room_E {TS : TypeId} {bytes : Nat} (hT : InfoE E T TS bytes) (ty : TypeId) (h : MineE E T w B (some ⟨g, 0, none⟩) n c xs) (o : Nat) (ys : List α) (ho : o ≤ n) (hc : o + ys.length ≤ c) (A2 : Option Addr) (c2 : Nat)
    (hsrc : ∀ j u, (ys.flatMap E.cells)[j]? = some u → ∃ a : Addr, A2 = some a ∧ w.cell? (a.add j) = some u) (hnz : A2 = none → ys = []) :
    ∃ w', (Builtin.append_ #[TS, TS] ty #[.slice (some ⟨g, 0, none⟩) o c, .slice A2 ys.length c2]).run Try.prog w = .ok (.slice (some ⟨g, 0, none⟩) (o + ys.length) c) w' ∧
      MineE E T w' B (some ⟨g, 0, none⟩) (max n (o + ys.length)) c (xs.take o ++ ys ++ xs.drop (o + ys.length)) ∧ w.grownBy w' (some g) := by
  obtain ⟨w', h1, h2⟩ := mine_splice h o ys ho hc
  refine ⟨w', ?_, h2⟩
  obtain ⟨hq, hu⟩ := info_size hT
  have hld : (Builtin.firstCells E.size ys.length (.slice A2 ys.length c2)).run Try.prog w = .ok (ys.flatMap E.cells).toArray w := by
    cases A2 with
    | none => rw [hnz rfl]; exact run_firstCells_none w _ _ _ _
    | some a => exact run_firstCells_some w _ _ a _ _ _ (E.flat_len ys) (fun j v hj => by
        obtain ⟨a', e, q⟩ := hsrc j v hj
        injection e with e
        subst e
        exact q)
  cases hq' : Try.prog.info? T with
  | none => simp [hq'] at hq
  | some i =>
    have hi : i.size = E.size := by simpa [hq'] using hq
    have hadd : (⟨g, 0, none⟩ : Addr).add (o * E.size) = ⟨g, o * E.size, none⟩ := by unfold Addr.add; split <;> simp_all
    simp [Builtin.append_, run_underlying hu, sizeOf, typeInfo, hq', hi, Builtin.lenOf, hc, hld, hadd, h1]

end

end Go.Proofs.Ytdibdfalahjmbaa.Shelf

/-! Shelves as a list: tops that rise, neighbours that are unlike, the last one free; the shelves of one float; the first top below a row. No program is in it. -/
namespace Go.Proofs.Ytdibdfalahjmbaa.Shelf

theorem draws_drop {β : Type} {F : Int → β} : ∀ (i : Nat) (xs : List (Int × β)) (a : Int) (x : Int × β), Draws F a xs → xs[i]? = some x → Draws F x.1 (xs.drop i)
  | _, [], _, _, h, _ => h.elim
  | 0, (t, b) :: r, a, x, h, hx => by
    have e : (t, b) = x := by simpa using hx
    subst e
    have := (draws_head h).1
    subst this
    exact h
  | i + 1, [(t, b)], a, x, h, hx => by simp at hx
  | i + 1, (t, b) :: (t2, b2) :: r, a, x, h, hx => by
    rw [List.getElem?_cons_succ] at hx
    rw [List.drop_succ_cons]
    exact draws_drop i ((t2, b2) :: r) t2 x h.2.2.2.2 hx

/-- Neighbours: the lower one begins below the other, and is unlike. -/
theorem draws_pair {β : Type} {F : Int → β} {xs : List (Int × β)} {a : Int} (h : Draws F a xs) {i : Nat} {x y : Int × β} (hx : xs[i]? = some x) (hy : xs[i + 1]? = some y) : x.1 < y.1 ∧ x.2 ≠ y.2 := by
  have hd := draws_drop i xs a x h hx
  have hi := (List.getElem?_eq_some_iff.1 hx)
  have hi2 := (List.getElem?_eq_some_iff.1 hy)
  obtain ⟨h1, e1⟩ := hi
  obtain ⟨h2, e2⟩ := hi2
  rw [List.drop_eq_getElem_cons h1, List.drop_eq_getElem_cons h2, e1, e2] at hd
  obtain ⟨x1, x2⟩ := x
  obtain ⟨y1, y2⟩ := y
  exact ⟨hd.2.1, hd.2.2.1⟩

theorem draws_rise {β : Type} {F : Int → β} {xs : List (Int × β)} {a : Int} (h : Draws F a xs) : ∀ (d i : Nat) (x y : Int × β), xs[i]? = some x → xs[i + d]? = some y → x.1 ≤ y.1
  | 0, i, x, y, hx, hy => by
    rw [Nat.add_zero, hx] at hy
    injection hy with e
    rw [e]; exact Int.le_refl _
  | d + 1, i, x, y, hx, hy => by
    have hl := (List.getElem?_eq_some_iff.1 hy).1
    obtain ⟨z, hz⟩ : ∃ z, xs[i + d]? = some z := ⟨_, List.getElem?_eq_getElem (by omega)⟩
    have h1 := draws_rise h d i x z hx hz
    have h2 := (draws_pair h hz (by rw [← hy]; rfl)).1
    omega

/-- The last item has what all rows from it on have. -/
theorem draws_last {β : Type} {F : Int → β} : ∀ (xs : List (Int × β)) (a : Int) (x : Int × β), Draws F a xs → xs[xs.length - 1]? = some x → ∀ y, x.1 ≤ y → F y = x.2
  | [], _, _, h, _ => h.elim
  | [(t, b)], a, x, h, hx => by
    have e : (t, b) = x := by simpa using hx
    subst e
    intro y hy
    exact h.2 y (by have := h.1; dsimp only at hy; omega)
  | (t, b) :: (t2, b2) :: r, a, x, h, hx => by
    refine draws_last ((t2, b2) :: r) t2 x h.2.2.2.2 ?_
    have e : ((t, b) :: (t2, b2) :: r).length - 1 = (((t2, b2) :: r).length - 1) + 1 := by simp
    rw [e, List.getElem?_cons_succ] at hx
    exact hx

theorem shelvesD_head (fs : List Fl) : (shelvesD fs)[0]? = some (-far, (-far, far)) := rfl
theorem shelvesD_pos (fs : List Fl) : 0 < (shelvesD fs).length := by unfold shelvesD; simp

theorem shelvesD_pair {fs : List Fl} (hn : Near fs) {i : Nat} {x y : Int × (Int × Int)} (hx : (shelvesD fs)[i]? = some x) (hy : (shelvesD fs)[i + 1]? = some y) : x.1 < y.1 ∧ x.2 ≠ y.2 := draws_pair (shelvesD_draws hn) hx hy

/-- A row below all floats. -/
def lowF (fs : List Fl) : Int := fs.foldl (fun v f => max v f.b) 0
theorem lowF_le : ∀ (fs : List Fl) (v0 : Int), v0 ≤ fs.foldl (fun v f => max v f.b) v0 ∧ ∀ f ∈ fs, f.b ≤ fs.foldl (fun v f => max v f.b) v0
  | [], v0 => ⟨Int.le_refl _, fun f hf => by cases hf⟩
  | f :: fs, v0 => by
    rw [List.foldl_cons]
    obtain ⟨h1, h2⟩ := lowF_le fs (max v0 f.b)
    refine ⟨by omega, fun g hg => ?_⟩
    rcases List.mem_cons.1 hg with e | e
    · subst e; omega
    · exact h2 g e

theorem shelvesD_last {fs : List Fl} (hn : Near fs) {x : Int × (Int × Int)} (hx : (shelvesD fs)[(shelvesD fs).length - 1]? = some x) : x.2 = (-far, far) := by
  have h := draws_last _ _ x (shelvesD_draws hn) hx (max x.1 (lowF fs)) (by omega)
  rw [← h]
  refine bnd_free fun f hf _ => .inr ?_
  have := (lowF_le fs 0).2 f hf
  unfold lowF
  omega

/-- Behind each shelf the next one's top is the first one below. -/
theorem first_below {fs : List Fl} (hn : Near fs) {i : Nat} {x y : Int × (Int × Int)} (hx : (shelvesD fs)[i]? = some x) (hy : (shelvesD fs)[i + 1]? = some y) : (shelvesD fs).find? (fun z => decide (x.1 < z.1)) = some y := by
  have hd := shelvesD_draws hn
  have hp := shelvesD_pair hn hx hy
  have hi := (List.getElem?_eq_some_iff.1 hy).1
  generalize shelvesD fs = ss at hx hy hd hi
  have e : ss = ss.take (i + 1) ++ y :: ss.drop (i + 2) := by
    have hk := (List.getElem?_eq_some_iff.1 hy)
    obtain ⟨hk1, hk2⟩ := hk
    rw [← hk2, ← List.drop_eq_getElem_cons hk1, List.take_append_drop]
  have hno : (ss.take (i + 1)).find? (fun z => decide (x.1 < z.1)) = none := by
    rw [List.find?_eq_none]
    intro z hz
    obtain ⟨j, hj⟩ := List.getElem?_of_mem hz
    rw [List.getElem?_take] at hj
    split at hj
    · rename_i hji
      have := draws_rise hd (i - j) j z x hj (by rw [show j + (i - j) = i by omega]; exact hx)
      simp; omega
    · cases hj
  rw [e, List.find?_append, hno]
  simp [hp.1]

/-- The shelves of one float. -/
theorem bnd_one (f : Fl) (y : Int) : bndF [f] y = ((if hitF 1 y (y + 1) f then max (-far) f.r else -far), (if hitF 2 y (y + 1) f then min far f.l else far)) := rfl

theorem one_none {f : Fl} (hn : Near [f]) (h : cntF f = false) : shelvesD [f] = [(-far, (-far, far))] := by
  refine (shelves_one hn ?_).symm
  refine ⟨rfl, fun y _ => ?_⟩
  exact bnd_free fun g hg hc => by
    rw [List.mem_singleton.1 hg, h] at hc
    cases hc

theorem one_left {f : Fl} (hn : Near [f]) (h : cntF f = true) (h1 : f.s = 1) (hr : -far < f.r) : shelvesD [f] = [(-far, (-far, far)), (f.t, (f.r, far)), (f.b, (-far, far))] := by
  obtain ⟨c1, c2, c3⟩ := cntF_iff.1 h
  have ht := (hn f (by simp)).1
  refine (shelves_one hn ?_).symm
  have free : ∀ y, (y < f.t ∨ f.b ≤ y) → bndF [f] y = (-far, far) := fun y hy => bnd_free fun g hg _ => by rw [List.mem_singleton.1 hg]; exact hy
  have held : ∀ y, f.t ≤ y → y < f.b → bndF [f] y = (f.r, far) := fun y hy1 hy2 => by
    rw [bnd_one, if_pos (hitF_iff.2 ⟨h, h1, by omega, hy2, by omega⟩), if_neg (fun hh => by have := (hitF_iff.1 hh).2.1; omega)]
    rw [Int.max_eq_right (by omega)]
  refine ⟨rfl, by unfold far; omega, fun e => ?_, fun y _ hy => free y (.inl hy), rfl, c2, fun e => ?_, held, rfl, fun y hy => free y (.inr hy)⟩
  · have e1 := congrArg Prod.fst e; dsimp only at e1; omega
  · have e1 := congrArg Prod.fst e; dsimp only at e1; omega

theorem one_right {f : Fl} (hn : Near [f]) (h : cntF f = true) (h1 : f.s = 2) (hl : f.l < far) : shelvesD [f] = [(-far, (-far, far)), (f.t, (-far, f.l)), (f.b, (-far, far))] := by
  obtain ⟨c1, c2, c3⟩ := cntF_iff.1 h
  have ht := (hn f (by simp)).1
  refine (shelves_one hn ?_).symm
  have free : ∀ y, (y < f.t ∨ f.b ≤ y) → bndF [f] y = (-far, far) := fun y hy => bnd_free fun g hg _ => by rw [List.mem_singleton.1 hg]; exact hy
  have held : ∀ y, f.t ≤ y → y < f.b → bndF [f] y = (-far, f.l) := fun y hy1 hy2 => by
    rw [bnd_one, if_neg (fun hh => by have := (hitF_iff.1 hh).2.1; omega), if_pos (hitF_iff.2 ⟨h, h1, by omega, hy2, by omega⟩)]
    rw [Int.min_eq_right (by omega)]
  refine ⟨rfl, by unfold far; omega, fun e => ?_, fun y _ hy => free y (.inl hy), rfl, c2, fun e => ?_, held, rfl, fun y hy => free y (.inr hy)⟩
  · have e1 := congrArg Prod.snd e; dsimp only at e1; omega
  · have e1 := congrArg Prod.snd e; dsimp only at e1; omega

/-! The same floats, in another order, and more often. -/

theorem turned_mem (fs : List Fl) (k : Nat) (f : Fl) : f ∈ fs ↔ f ∈ fs.drop k ++ fs.take k ++ fs.take k := by
  constructor
  · intro h
    rw [← List.take_append_drop k fs] at h
    simp only [List.mem_append] at h ⊢
    rcases h with h | h
    · exact .inl (.inr h)
    · exact .inl (.inl h)
  · intro h
    simp only [List.mem_append] at h
    rcases h with (h | h) | h
    · exact List.mem_of_mem_drop h
    · exact List.mem_of_mem_take h
    · exact List.mem_of_mem_take h

end Go.Proofs.Ytdibdfalahjmbaa.Shelf
