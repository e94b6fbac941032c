/- Lists of events of a body's own: appending, and what is kept. -/
import Derived.Test.YtflncnfagoekcaaPart9
import Derived.Test.YtflncnfagoekcaaPart19
namespace Go.Proofs.Ytflncnfagoekcaa.Walk
open Go.RowKit Go.Sort Go.Proofs.Ytflncnfagoekcaa.Record Go.Proofs.Ytflncnfagoekcaa.Script Go.Proofs.Ytflncnfagoekcaa.Tree Go.Proofs.Ytflncnfagoekcaa.More

theorem infoEvW : InfoE encEv 32 45 16 :=
  ⟨Try.underlying45, .agg #[.int .i64 0, .bool false], rfl, by kernel_rfl⟩

/-- A list of events. -/
abbrev Evs (w : World) (B : Nat) (A : Option Addr) (n c : Nat) (xs : List Ev) : Prop := MineE encEv 32 w B A n c xs

theorem wpListIn_append_ev {F : Fence} {nF : Nat} (w : World) {ops : Array Oper} {rest : List Oper} {o : Oper} {a : Act} {Q : Exit → Act → World → Prop} (hgd : o.guard = none) (s x : Operand)
    (ho : o.op = .call { callee := .builtin .append, args := #[s, x], argTypes := #[45, 45] })
    (B : Nat) (A : Option Addr) (n c : Nat) (xs : List Ev) (hs : a.eval s = .slice A n c) (hown : Evs w B A n c xs) (A2 : Option Addr) (m c2 : Nat) (ys : List Ev) (hx : a.eval x = .slice A2 m c2) (hsrc : SrcE encEv w A2 m c2 ys)
    (hlen : n + m ≤ 1000000) (hB : B ≤ w.heap.size)
    (h : ∀ A' c' w', AppendedE encEv 32 w B A n xs ys m A' c' w' → wpListIn F nF Try.prog ops Q rest (a.put o.dst (.slice A' (n + m) c')) w') : wpListIn F nF Try.prog ops Q (o :: rest) a w := by
  refine wpListIn_plain hgd fun _ hK => ?_
  obtain ⟨A', c', w', hr, h2⟩ := run_append_E encEv (by decide) infoEvW o.type w B A n c xs hown A2 m c2 ys hsrc hlen hB
  unfold Oper.wpIn
  refine ⟨by simp [Oper.about, ho, resolve, Target.leads, Sem.run_pure], ?_⟩
  rw [Oper.semAt_plain F _ _ (by rw [ho]; intro c hc'; cases hc')]
  simp only [execOp, ho, resolve, invoke, builtin, Sem.run_bind, Sem.run_pure, Result.andThen_ok, List.map_toArray, List.map_cons, List.map_nil, hs, hx, hr]
  exact hK _ _ (h A' c' w' h2)

/-- An event is appended, and the variable set: what is kept, and what lies there. -/
theorem more_ev {mb s1 a b d B : Nat} {W W1 : World} {A A1 : Option Addr} {l c c1 : Nat} {xs : List Ev} {x : Ev} {o : Obj} (hv : Boxed W mb 45 (.slice A l c)) (hrow : Evs W B A l c xs) (hs1 : s1 ≤ mb) (hma : mb < a ∨ b ≤ mb) (hmb : mb < d) (hmB : mb < B) (hb : b ≤ B) (hbs : b ≤ W.heap.size)
    (h : AppendedE encEv 32 (W.alloc o) B A l xs [x] 1 A1 c1 W1) :
    StayB (some mb) s1 a b d W (W1.setCell ⟨mb, 0, none⟩ (.slice A1 (l + 1) c1)) ∧ Boxed W1 mb 45 (.slice A l c) ∧ Boxed (W1.setCell ⟨mb, 0, none⟩ (.slice A1 (l + 1) c1)) mb 45 (.slice A1 (l + 1) c1) ∧ Evs (W1.setCell ⟨mb, 0, none⟩ (.slice A1 (l + 1) c1)) B A1 (l + 1) c1 (xs ++ [x]) ∧
    KeepsOthers W (W1.setCell ⟨mb, 0, none⟩ (.slice A1 (l + 1) c1)) ∧ Below s1 W (W1.setCell ⟨mb, 0, none⟩ (.slice A1 (l + 1) c1)) ∧ ∀ k, k < W.heap.size → k ≠ mb → k < B → (W1.setCell ⟨mb, 0, none⟩ (.slice A1 (l + 1) c1)).heap[k]? = W.heap[k]? := by
  have hblt := hv.lt
  obtain ⟨h1, h2, h3⟩ := h
  have hA := hrow.lt
  have hA1 := h1.lt
  have hsz := h2.size
  rw [World.size_alloc] at hsz
  have hne : ∀ g, blk A = some g → g ≠ mb := fun g e e2 => by have := (hA g e).1; omega
  have hv1 : Boxed W1 mb 45 (.slice A l c) := (hv.alloc _).kept h2 (fun e => hne mb e.symm rfl)
  have hg3 : W1.grownBy (W1.setCell ⟨mb, 0, none⟩ (.slice A1 (l + 1) c1)) (some mb) := grownBy_setCell' W1 mb _
  have hv2 := hv1.set (.slice A1 (l + 1) c1)
  have hm2 : Evs (W1.setCell ⟨mb, 0, none⟩ (.slice A1 (l + 1) c1)) B A1 (l + 1) c1 (xs ++ [x]) := h1.kept hg3 (fun g e e2 => by have := (hA1 g e).1; injection e2 with e2; omega)
  have hal : Below W.heap.size W (W.alloc o) := ba1 _ _
  have hbw : Below s1 W (W1.setCell ⟨mb, 0, none⟩ (.slice A1 (l + 1) c1)) := (hal.mono (by omega)).grown h2 (by rw [World.size_alloc]; omega) (fun g e => by have := (hA g e).1; omega) |>.setCell (p := ⟨mb, 0, none⟩) hs1 _
  have hsame : ∀ j, j < W.heap.size → blk A ≠ some j → j ≠ mb → (W1.setCell ⟨mb, 0, none⟩ (.slice A1 (l + 1) c1)).heap[j]? = W.heap[j]? := fun j hj h4 h5 =>
    (hg3.block j (by omega) (fun e => h5 (by injection e))).trans ((h2.block j (by rw [World.size_alloc]; omega) (fun e => h4 e.symm)).trans (hal.block j hj))
  refine ⟨StayB.of_more hv.cell hv2.cell (fun g e => Nat.le_trans hb (hA g e).1) ?_ (fun g e => (hm2.lt g e).2) hsame hbw hma hmb hbs, hv1, hv2, hm2, ⟨hbw.size, fun k q hk hq => ?_⟩, hbw, fun k hk h5 h6 => hsame k hk (fun e => by have := (hA k e).1; omega) h5⟩
  · rcases h3 with h3 | h3
    · exact .inl h3
    · refine .inr fun g e => ?_
      rw [h3] at e
      injection e with e
      rw [World.size_alloc] at e
      omega
  · have hlt := (Array.getElem?_eq_some_iff.1 hk).1
    refine (hsame k hlt (fun e => ?_) (fun e => ?_)).trans hk
    · rcases hrow.2 with ⟨e1, -⟩ | ⟨g, cap, cur, e1, -, hg, -⟩
      · injection e1 with e1; rw [e1] at e; cases e
      · injection e1 with e1 _ _
        subst e1
        have : g = k := by injection e
        subst this
        rw [hg] at hk; injection hk with hk; subst hk; cases hq
    · subst e
      have hg : W.heap[k]? = some (.cells #[.slice A l c] 45 (0, 0)) := hv
      rw [hg] at hk; injection hk with hk; subst hk; cases hq

end Go.Proofs.Ytflncnfagoekcaa.Walk
