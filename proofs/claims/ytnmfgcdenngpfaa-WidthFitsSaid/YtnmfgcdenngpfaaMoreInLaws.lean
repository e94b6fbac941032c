/- Laws at operations within a fence: a struct that is stored whole, a number that is appended. -/
import Derived.Test.YtnmfgcdenngpfaaRow
import Derived.OwnWalkIn
import Derived.Laws.Tables
import Derived.RangeFuncBox
namespace Go.Proofs.Ytnmfgcdenngpfaa.More
open Go.RowKit

theorem wpListIn_store_row {F : Fence} {n : Nat} {P : Program} (w : World) {ops : Array Oper} {rest : List Oper} {o : Oper} {a : Act} {Q : Exit → Act → World → Prop} (hgd : o.guard = none) (ty : TypeId) (x y : Operand) (ho : o.op = .store ty x y)
    (g : Nat) (cells : Array Value) (hx : a.eval x = .pointer (some ⟨g, 0, none⟩)) (hy : a.eval y = .agg cells)
    (t : TypeId) (old : Array Value) (hg : w.heap[g]? = some (.cells old t (0, 0))) (hi : (P.info? ty).map (·.size) = some cells.size)
    (hold : old.size = cells.size) (h1 : cells.all (·.oneCell') = true)
    (h : wpListIn F n P ops Q rest (a.put o.dst undef) (w.setRow g cells)) : wpListIn F n P ops Q (o :: rest) a w := by
  refine wpListIn_plain hgd fun _ hK => ?_
  unfold Oper.wpIn
  refine ⟨by simp [Oper.about, ho], ?_⟩
  rw [Oper.semAt_plain F _ _ (by rw [ho]; intro c hc'; cases hc')]
  simp only [execOp, ho, hx, hy, Instr.storeAt, Instr.sureAddr, Sem.run_bind, Sem.run_pure, Result.andThen_ok, run_storeVar_row w g t ty old cells hg hi hold h1]
  exact hK _ _ h

theorem wpListIn_append_mine {F : Fence} {nF : Nat} (w : World) {ops : Array Oper} {rest : List Oper} {o : Oper} {a : Act} {Q : Exit → Act → World → Prop} (hgd : o.guard = none) (s x : Operand)
    (ho : o.op = .call { callee := .builtin .append, args := #[s, x], argTypes := #[79, 79] })
    (B : Nat) (A : Option Addr) (n c : Nat) (xs : List Int) (hs : a.eval s = .slice A n c) (hown : Mine w B A n c xs) (A2 : Option Addr) (m c2 : Nat) (ys : List Int) (hx : a.eval x = .slice A2 m c2) (hsrc : Src w A2 m c2 ys)
    (hlen : n + m ≤ 1000000) (hB : B ≤ w.heap.size)
    (h : ∀ A' c' w', Appended w B A n xs ys m A' c' w' → wpListIn F nF Try.prog ops Q rest (a.put o.dst (.slice A' (n + m) c')) w') : wpListIn F nF Try.prog ops Q (o :: rest) a w := by
  refine wpListIn_plain hgd fun _ hK => ?_
  obtain ⟨A', c', w', hr, h2⟩ := run_append_mine o.type w B A n c xs hown A2 m c2 ys hsrc hlen hB
  unfold Oper.wpIn
  refine ⟨by simp [Oper.about, ho, resolve, Target.leads, Sem.run_pure], ?_⟩
  rw [Oper.semAt_plain F _ _ (by rw [ho]; intro c hc'; cases hc')]
  simp only [execOp, ho, resolve, invoke, builtin, Sem.run_bind, Sem.run_pure, Result.andThen_ok, List.map_toArray, List.map_cons, List.map_nil, hs, hx, hr]
  exact hK _ _ (h A' c' w' h2)

/-- A number appended to a slice that a captured variable holds: what the append, and the store, leave. -/
theorem boxed_more {W W1 : World} {B bt : Nat} {t : TypeId} {A : Option Addr} {l c : Nat} {xs : List Int} {k : Int} {A1 : Option Addr} {c1 : Nat} (hte : t ≠ 3) (hv : Boxed W bt t (.slice A l c)) (hrow : Mine W B A l c xs) (hn : B ≤ W.heap.size) (hB : B ≤ bt)
    (h : Appended (W.alloc (.cells #[.int .i64 k] 3)) B A l xs [k] 1 A1 c1 W1) :
    Boxed W1 bt t (.slice A l c) ∧ Boxed (W1.setCell ⟨bt, 0, none⟩ (.slice A1 (l + 1) c1)) bt t (.slice A1 (l + 1) c1) ∧ Mine (W1.setCell ⟨bt, 0, none⟩ (.slice A1 (l + 1) c1)) B A1 (l + 1) c1 (xs ++ [k]) ∧ KeepsOthers W (W1.setCell ⟨bt, 0, none⟩ (.slice A1 (l + 1) c1)) ∧ Below B W (W1.setCell ⟨bt, 0, none⟩ (.slice A1 (l + 1) c1)) ∧
      ∀ (T : TypeId) (D s : Nat) (v : Value) (m : Nat) (ys : List Value), T ≠ 3 → T ≠ t → W.ownsRow D T s v m ys → (W1.setCell ⟨bt, 0, none⟩ (.slice A1 (l + 1) c1)).ownsRow D T s v m ys := by
  obtain ⟨h1, h2, -⟩ := h
  rw [← ownBlock_blk A l c] at h2
  obtain ⟨r1, r2, r3, r4, r5⟩ := hv.appended hte hrow hn hB h1 h2
  refine ⟨r1, r2, r3, r4, r5, fun T D s v m ys hT hT2 hr => ?_⟩
  have e1 : (W.alloc (.cells #[.int .i64 k] 3)).ownsRow D T s v m ys := World.ownsRow.alloc hr _
  have hm : (W.alloc (.cells #[.int .i64 k] 3)).ownsRow B 3 1 (.slice A l c) l (xs.map (Value.int .i64)) := World.ownsRow.alloc hrow _
  have e2 : W1.ownsRow D T s v m ys := e1.kept h2 (by
    rcases e1.2 with ⟨rfl, _⟩ | ⟨g, cap, cur, rfl, _, hg, _⟩
    · exact .inl rfl
    · refine .inr fun e => ?_
      rcases hm.2 with ⟨e3, _⟩ | ⟨g', cap', cur', e3, _, hg', _⟩
      · rw [e3] at e; cases e
      · rw [e3] at e
        have : g = g' := by injection e
        subst this
        rw [hg] at hg'
        injection hg' with hg'
        injection hg' with _ e4 _
        exact hT e4)
  exact e2.kept (grownBy_setCell' W1 bt _) (by
    rcases e2.2 with ⟨rfl, _⟩ | ⟨g, cap, cur, rfl, _, hg, _⟩
    · exact .inl rfl
    · refine .inr fun e => ?_
      have : g = bt := by injection e
      subst this
      have hg2 : W1.heap[g]? = some (.cells #[.slice A l c] t (0, 0)) := r1
      rw [hg] at hg2
      injection hg2 with hg2
      injection hg2 with _ e4 _
      exact hT2 e4)

end Go.Proofs.Ytnmfgcdenngpfaa.More
