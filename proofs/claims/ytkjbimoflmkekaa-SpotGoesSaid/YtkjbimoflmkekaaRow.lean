/- Appending to a list of numbers of one's own, whatever is appended. -/
import Derived.Test.YtkjbimoflmkekaaLib
import Derived.OneCell
import Derived.Maps.AppendAt
import Derived.Deep.AppendLies
import Derived.Deep.RegionLaw
namespace Go.Proofs.Ytkjbimoflmkekaa
open Go.RowKit

/-- The block in which a slice lies, if it lies somewhere. -/
def blk : Option Addr → Option Nat
  | some a => some a.block
  | none => none

theorem ownBlock_blk (A : Option Addr) (n c : Nat) : (Value.slice A n c).ownBlock = blk A := by cases A <;> rfl

/-- A slice of one's own, of numbers. -/
def Mine (w : World) (B : Nat) (A : Option Addr) (n c : Nat) (xs : List Int) : Prop :=
  w.ownsRow B 3 1 (.slice A n c) n (xs.map (Value.int .i64))

theorem mine_shape {w : World} {B : Nat} {v : Value} {n : Nat} {xs : List Value} (h : w.ownsRow B 3 1 v n xs) : ∃ A c, v = .slice A n c := by
  rcases h.2 with ⟨rfl, rfl⟩ | ⟨g, cap, cur, rfl, _⟩
  · exact ⟨none, 0, rfl⟩
  · exact ⟨_, _, rfl⟩

theorem Mine.len {w : World} {B : Nat} {A : Option Addr} {n c : Nat} {xs : List Int} (h : Mine w B A n c xs) : xs.length = n := by
  have := h.1; simpa using this

theorem Mine.lt {w : World} {B : Nat} {A : Option Addr} {n c : Nat} {xs : List Int} (h : Mine w B A n c xs) : ∀ k, blk A = some k → B ≤ k ∧ k < w.heap.size := by
  intro k hk
  exact World.ownsRow.lt h k (by rw [ownBlock_blk]; exact hk)

theorem Mine.kept {w w' : World} {B : Nat} {A : Option Addr} {n c : Nat} {xs : List Int} {row : Option Nat} (h : Mine w B A n c xs) (hg : w.grownBy w' row) (hne : ∀ k, blk A = some k → row ≠ some k) : Mine w' B A n c xs := by
  refine World.ownsRow.kept h hg ?_
  rw [ownBlock_blk]
  cases hb : blk A with
  | none => exact .inl rfl
  | some k => exact .inr fun e => hne k hb e.symm

theorem grown_of_below {w w' : World} (h : Below w.heap.size w w') : w.grownBy w' none := ⟨h.os, h.tape, h.output, h.size, fun k hk _ => h.block k hk⟩

theorem Mine.below {w w' : World} {B : Nat} {A : Option Addr} {n c : Nat} {xs : List Int} (h : Mine w B A n c xs) (hb : Below w.heap.size w w') : Mine w' B A n c xs :=
  h.kept (grown_of_below hb) (fun k _ e => by cases e)

theorem Mine.cell {w : World} {B : Nat} {A : Option Addr} {n c : Nat} {xs : List Int} (h : Mine w B A n c xs) (k : Nat) (hk : k < xs.length) :
    ∃ g, A = some ⟨g, 0, none⟩ ∧ g < w.heap.size ∧ n ≤ c ∧ w.cell? ((⟨g, 0, none⟩ : Addr).add k) = some (.int .i64 (xs.getD k 0)) := by
  have hl := h.len
  obtain ⟨g, cap, hv, _, hg⟩ := World.ownsRow.form h (by omega)
  have hA : A = some ⟨g, 0, none⟩ := by injection hv
  subst hA
  refine ⟨g, rfl, hg, ?_, World.ownsRow.cells h (g := g) rfl k _ (by simp [List.getD, hk])⟩
  rcases h.2 with ⟨e, _⟩ | ⟨g', cap', cur, e, _, _, hc, _⟩
  · simp at e
  · injection e with e1 e2 e3
    omega

/-- What is appended: m numbers of a slice, nil or not. -/
def Src (w : World) (A : Option Addr) (m c : Nat) (ys : List Int) : Prop :=
  ys.length = m ∧ (A = none → c = 0) ∧ ∀ k, k < ys.length → ∃ ad : Addr, A = some ad ∧ w.cell? (ad.add k) = some (.int .i64 (ys.getD k 0))

theorem Mine.src {w : World} {B : Nat} {A : Option Addr} {n c : Nat} {xs : List Int} (h : Mine w B A n c xs) : Src w A n c xs := by
  refine ⟨h.len, fun e => ?_, fun k hk => ?_⟩
  · subst e
    rcases h.2 with ⟨e, _⟩ | ⟨g', cap', cur, e, _⟩
    · injection e
    · simp at e
  · obtain ⟨g, e, _, _, hc⟩ := h.cell k hk
    exact ⟨_, e, hc⟩

theorem int_info : (Try.prog.info? 3).map (fun i => (i.zero, i.size, i.bytes)) = some (some (.int .i64 0), 1, 8) := by kernel_rfl

theorem int_cells (ys : List Int) : ∀ u ∈ ys.map (Value.int .i64), u.oneCell' = true := by
  intro u hu
  rw [List.mem_map] at hu
  obtain ⟨n, _, rfl⟩ := hu
  rfl

/-- What an append leaves. -/
def Appended (w : World) (B : Nat) (A : Option Addr) (n : Nat) (xs ys : List Int) (m : Nat) (A' : Option Addr) (c' : Nat) (w' : World) : Prop :=
  Mine w' B A' (n + m) c' (xs ++ ys) ∧ w.grownBy w' (blk A) ∧ (blk A' = blk A ∨ blk A' = some w.heap.size)

set_option maxRecDepth 100000 in
theorem run_append_mine (ty : TypeId) (w : World) (B : Nat) (A : Option Addr) (n c : Nat) (xs : List Int) (hown : Mine w B A n c xs) (A2 : Option Addr) (m c2 : Nat) (ys : List Int) (hs : Src w A2 m c2 ys)
    (hlen : n + m ≤ 1000000) (hB : B ≤ w.heap.size) :
    ∃ A' c' w', (Builtin.append_ #[28, 28] ty #[.slice A n c, .slice A2 m c2]).run Try.prog w = .ok (.slice A' (n + m) c') w' ∧ Appended w B A n xs ys m A' c' w' := by
  obtain ⟨i0, hi0, hz0, hz1, hz2⟩ := info_parts int_info
  obtain ⟨h1, h2, h3⟩ := hs
  cases A2 with
  | none =>
    have hm : m = 0 := by
      rcases Nat.eq_zero_or_pos m with h | h
      · exact h
      · obtain ⟨ad, e, _⟩ := h3 0 (by omega)
        cases e
    subst hm
    have hy : ys = [] := List.eq_nil_of_length_eq_zero h1
    subst hy
    obtain rfl := h2 rfl
    exact ⟨A, c, w, run_append_owned_none (P := Try.prog) w B 28 ty 3 i0 1 Try.underlying28 hi0 _ n _ hown, by simpa using hown, World.grownBy.refl w _, .inl rfl⟩
  | some ad =>
    have hcells : ∀ j u, (ys.map (Value.int .i64))[j]? = some u → w.cell? (ad.add j) = some u := by
      intro j u hu
      rw [List.getElem?_map] at hu
      rcases Nat.lt_or_ge j ys.length with hj | hj
      · obtain ⟨ad', e, hc⟩ := h3 j hj
        injection e with e
        subst e
        rw [hc]
        simpa [List.getD, hj] using hu
      · rw [List.getElem?_eq_none hj] at hu
        simp at hu
    obtain ⟨v', w', hrun, g2, g3, _, g5⟩ := run_append_own_at (P := Try.prog) w B 28 ty 3 i0 (.int .i64 0) 1 8 Try.underlying28 hi0 hz0 hz1 hz2 rfl (by omega) _ n _ hown ad m c2 _ (by simpa using h1) hcells
      (int_cells ys) (by simp only [maxLen]; omega) (by omega) hB
    obtain ⟨A', c', rfl⟩ := mine_shape g2
    refine ⟨A', c', w', hrun, ?_, ?_, ?_⟩
    · unfold Mine; rw [List.map_append]; exact g2
    · rw [ownBlock_blk] at g3; exact g3
    · rw [ownBlock_blk, ownBlock_blk] at g5; exact g5

theorem wp_append_mine (w : World) {o : Oper} {a : Act} {K : Act → World → Prop} {Q : Exit → Act → World → Prop} (s x : Operand)
    (ho : o.op = .call { callee := .builtin .append, args := #[s, x], argTypes := #[28, 28] })
    (B : Nat) (A : Option Addr) (n c : Nat) (xs : List Int) (hs : a.eval s = .slice A n c) (hown : Mine w B A n c xs) (A2 : Option Addr) (m c2 : Nat) (ys : List Int) (hx : a.eval x = .slice A2 m c2) (hsrc : Src w A2 m c2 ys)
    (hlen : n + m ≤ 1000000) (hB : B ≤ w.heap.size)
    (h : ∀ A' c' w', Appended w B A n xs ys m A' c' w' → K (a.put o.dst (.slice A' (n + m) c')) w') : o.wp Try.prog a w K Q := by
  obtain ⟨A', c', w', hr, h2⟩ := run_append_mine o.type w B A n c xs hown A2 m c2 ys hsrc hlen hB
  unfold Oper.wp execOp
  simp only [ho, resolve, invoke, builtin, Sem.run_bind, Sem.run_pure, Result.andThen_ok, List.map_toArray, List.map_cons, List.map_nil, hs, hx, hr]
  exact h A' c' w' h2

theorem wpList_append_mine (w : World) {ops : Array Oper} {rest : List Oper} {o : Oper} {a : Act} {Q : Exit → Act → World → Prop} (hgd : o.guard = none) (s x : Operand)
    (ho : o.op = .call { callee := .builtin .append, args := #[s, x], argTypes := #[28, 28] })
    (B : Nat) (A : Option Addr) (n c : Nat) (xs : List Int) (hs : a.eval s = .slice A n c) (hown : Mine w B A n c xs) (A2 : Option Addr) (m c2 : Nat) (ys : List Int) (hx : a.eval x = .slice A2 m c2) (hsrc : Src w A2 m c2 ys)
    (hlen : n + m ≤ 1000000) (hB : B ≤ w.heap.size)
    (h : ∀ A' c' w', Appended w B A n xs ys m A' c' w' → wpList Try.prog ops Q rest (a.put o.dst (.slice A' (n + m) c')) w') : wpList Try.prog ops Q (o :: rest) a w :=
  wpList_plain hgd fun _ hK => wp_append_mine w s x ho B A n c xs hs hown A2 m c2 ys hx hsrc hlen hB fun A' c' w' h2 => hK _ _ (h A' c' w' h2)

theorem step_append_mine (w : World) {ops : Array Oper} {o : Oper} {a : Act} {K : Act → World → Prop} {Q : Exit → Act → World → Prop} {E : Prop} (hgd : o.guard = none) (s x : Operand)
    (ho : o.op = .call { callee := .builtin .append, args := #[s, x], argTypes := #[28, 28] })
    (B : Nat) (A : Option Addr) (n c : Nat) (xs : List Int) (hs : a.eval s = .slice A n c) (hown : Mine w B A n c xs) (A2 : Option Addr) (m c2 : Nat) (ys : List Int) (hx : a.eval x = .slice A2 m c2) (hsrc : Src w A2 m c2 ys)
    (hlen : n + m ≤ 1000000) (hB : B ≤ w.heap.size)
    (h : ∀ A' c' w', Appended w B A n xs ys m A' c' w' → K (a.put o.dst (.slice A' (n + m) c')) w') :
    if Region.wanted o (yielded ops a.tmps) = true then Oper.wp Try.prog o a w K Q else E := by
  have hw : Region.wanted o (yielded ops a.tmps) = true := by simp [Region.wanted, hgd]
  rw [if_pos hw]
  exact wp_append_mine w s x ho B A n c xs hs hown A2 m c2 ys hx hsrc hlen hB h

theorem one_src (w : World) (n : Int) : Src (w.alloc (.cells #[.int .i64 n] 3)) (some ⟨w.heap.size, 0, none⟩) 1 1 [n] := by
  refine ⟨rfl, fun e => (by cases e), fun k hk => ?_⟩
  simp only [List.length_cons, List.length_nil] at hk
  obtain rfl : k = 0 := by omega
  exact ⟨_, rfl, cell_one_new w (.int .i64 n) 3 0 _ rfl⟩

theorem one_mine (w : World) (B : Nat) (hB : B ≤ w.heap.size) (n : Int) : Mine (w.alloc (.cells #[.int .i64 n] 3)) B (some ⟨w.heap.size, 0, none⟩) 1 1 [n] :=
  World.ownsRow_lit w #[.int .i64 n] 1 hB (by unfold maxLen; omega) rfl

theorem Mine.alloc {w : World} {B : Nat} {A : Option Addr} {n c : Nat} {xs : List Int} (h : Mine w B A n c xs) (o : Obj) : Mine (w.alloc o) B A n c xs :=
  World.ownsRow.alloc h o

theorem Appended.below {w W : World} {B C : Nat} {A : Option Addr} {n c : Nat} {xs ys : List Int} {m : Nat} {A' : Option Addr} {c' : Nat} {w' : World}
    (h : Appended w B A n xs ys m A' c' w') (hown : Mine w B A n c xs) (hw : Below C W w) (hC : C ≤ B) (hB : C ≤ w.heap.size) : Below C W w' :=
  hw.grown h.2.1 hB (fun k hk => by have := (hown.lt k hk).1; omega)

theorem none_mine (w : World) (B : Nat) (hB : B ≤ w.heap.size) : Mine (w.alloc (.cells #[] 3)) B (some ⟨w.heap.size, 0, none⟩) 0 0 [] :=
  World.ownsRow_lit w #[] 0 hB (by unfold maxLen; omega) rfl

theorem Src.grown {w w' : World} {b m c : Nat} {ys : List Int} {row : Option Nat} (h : Src w (some ⟨b, 0, none⟩) m c ys) (hg : w.grownBy w' row) (hne : row ≠ some b) : Src w' (some ⟨b, 0, none⟩) m c ys := by
  obtain ⟨h1, h2, h3⟩ := h
  refine ⟨h1, h2, fun k hk => ?_⟩
  obtain ⟨ad, e, hc⟩ := h3 k hk
  injection e with e
  subst e
  exact ⟨_, rfl, hg.cell hc (by rw [block_of_add]; exact fun e => hne e.symm)⟩

theorem Src.alloc {w : World} {b m c : Nat} {ys : List Int} (h : Src w (some ⟨b, 0, none⟩) m c ys) (o : Obj) : Src (w.alloc o) (some ⟨b, 0, none⟩) m c ys :=
  h.grown (World.grownBy_alloc w o none) (fun e => by cases e)

theorem Src.drew {w : World} {A : Option Addr} {m c : Nat} {ys : List Int} (h : Src w A m c ys) : Src w.drew A m c ys := h
theorem Mine.drew {w : World} {B : Nat} {A : Option Addr} {n c : Nat} {xs : List Int} (h : Mine w B A n c xs) : Mine w.drew B A n c xs := h

theorem Mine.nums {w : World} {B : Nat} {A : Option Addr} {n c : Nat} {xs : List Int} (h : Mine w B A n c xs) : Nums w w.heap.size A xs := fun k hk => by
  obtain ⟨g, e, hg, _, hc⟩ := h.cell k hk
  exact ⟨_, e, hg, hc⟩

end Go.Proofs.Ytkjbimoflmkekaa
