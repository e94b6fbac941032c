/- In a round over slices.Chunk: one box more; what a round keeps. -/
import Derived.Test.YtleikbpikmineaaScriptChunk
import Derived.Test.YtleikbpikmineaaScriptLong
import Derived.Test.YtleikbpikmineaaScriptReads
namespace Go.Proofs.Ytleikbpikmineaa.Script
open Go.RowKit Go.Shelf Go.Sort Go.Proofs.Ytleikbpikmineaa.Record

attribute [local go_sem] Oper.semAt_some

def BoxOk : Prop := ∀ (A : Option Addr) (c : Nat) (xs : List Int) (i : Nat) (w : World), 14 ≤ c → i + 14 ≤ xs.length → Nums w w.heap.size A xs →
  Calls Try.prog 18 #[.slice (A.map (·.add i)) 14 c] w fun e w' => e = .returned (boxAt xs i).v ∧ Below w.heap.size w w'

theorem wpIn_append_run {F : Fence} {nf : Nat} {P : Program} (w : World) {o : Oper} {a : Act} {K : Act → World → Prop} {Q : Exit → Act → World → Prop} (s x : Operand) (t ty : TypeId) (hty : o.type = ty)
    (ho : o.op = .call { callee := .builtin .append, args := #[s, x], argTypes := #[t, t] }) {vs vx v : Value} {w' : World} (hs : a.eval s = vs) (hx : a.eval x = vx)
    (hr : (Builtin.append_ #[t, t] ty #[vs, vx]).run P w = .ok v w') (h : K (a.put o.dst v) w') : o.wpIn F nf P a w K Q := by
  subst hty
  unfold Oper.wpIn
  refine ⟨?_, ?_⟩
  · simp [Oper.about, ho, resolve, Target.leads, Sem.run_pure]
  · rw [Oper.semAt_plain F _ _ (by rw [ho]; intro c hc'; cases hc')]
    simp only [execOp, ho, resolve, invoke, builtin, Sem.run_bind, Sem.run_pure, Result.andThen_ok, List.map_toArray, List.map_cons, List.map_nil, hs, hx, hr]
    exact h

theorem Two.of_boxed {Bs Bn : Nat} {W W' : World} {t1 t2 : TypeId} {v1 v2 : Value} (hs : W.heap.size ≤ W'.heap.size) (h1 : Boxed W Bs t1 v1) (h2 : Boxed W Bn t2 v2) (k1 : Boxed W' Bs t1 v1) (k2 : Boxed W' Bn t2 v2) : Two Bs Bn W W' :=
  ⟨hs, Eq.trans k1 (Eq.symm h1), Eq.trans k2 (Eq.symm h2)⟩

/-- What has been read so far. -/
def sofar (xs : List Int) {m : Nat} (pre : List { k : Nat // k < m }) : List Bx := pre.map fun x => boxAt xs (x.1 * 14)

theorem sofar_all (xs : List Int) {m : Nat} {ys : List { k : Nat // k < m }} (h : ys.map (·.1) = List.range m) : sofar xs ys = boxesOf xs m := by
  unfold sofar boxesOf
  rw [← h, List.map_map]
  rfl

theorem sofar_next (xs : List Int) {m : Nat} (pre : List { k : Nat // k < m }) (x : { k : Nat // k < m }) : sofar xs (pre ++ [x]) = sofar xs pre ++ [boxAt xs (x.1 * 14)] := by simp [sofar]

/-- One box more, behind a call that has left what lay: what the append and the store leave. -/
theorem one_more {W w1 : World} {B : Nat} {A' : Option Addr} {c' : Nat} {bs : List Bx} (b : Bx) (hv : Boxed W B 26 (.slice A' bs.length c')) (hrow : W.ownsRow B 35 14 (.slice A' bs.length c') bs.length (bs.flatMap cellsOfB)) (k1 : Below W.heap.size W w1) (hlen : bs.length < 65536) (hB : B ≤ W.heap.size) :
    ∃ A2 c2 w2, (Builtin.append_ #[26, 26] 26 #[.slice A' bs.length c', .slice (some ⟨w1.heap.size, 0, none⟩) 1 1]).run Try.prog (w1.alloc (.cells #[.int .i64 b.d, .int .i64 b.k, .int .i64 b.s, .int .i64 b.c, .int .i64 b.w, .int .i64 b.h, .int .i64 b.m0, .int .i64 b.m1, .int .i64 b.m2, .int .i64 b.m3, .int .i64 b.e0, .int .i64 b.e1, .int .i64 b.e2, .int .i64 b.e3] 35)) = .ok (.slice A2 (bs.length + 1) c2) w2 ∧
      Boxed w1 B 26 (.slice A' bs.length c') ∧ Boxed (w1.alloc (.cells #[.int .i64 b.d, .int .i64 b.k, .int .i64 b.s, .int .i64 b.c, .int .i64 b.w, .int .i64 b.h, .int .i64 b.m0, .int .i64 b.m1, .int .i64 b.m2, .int .i64 b.m3, .int .i64 b.e0, .int .i64 b.e1, .int .i64 b.e2, .int .i64 b.e3] 35)) B 26 (.slice A' bs.length c') ∧ Boxed w2 B 26 (.slice A' bs.length c') ∧ Boxed (w2.setCell ⟨B, 0, none⟩ (.slice A2 (bs.length + 1) c2)) B 26 (.slice A2 (bs.length + 1) c2) ∧
      (w2.setCell ⟨B, 0, none⟩ (.slice A2 (bs.length + 1) c2)).ownsRow B 35 14 (.slice A2 (bs.length + 1) c2) (bs.length + 1) ((bs ++ [b]).flatMap cellsOfB) ∧ KeepsOthers W (w2.setCell ⟨B, 0, none⟩ (.slice A2 (bs.length + 1) c2)) ∧ Below B W (w2.setCell ⟨B, 0, none⟩ (.slice A2 (bs.length + 1) c2)) ∧
      ∀ (D : Nat) (t : TypeId) (u : Value), Boxed W D t u → t ≠ 35 → D ≠ B → Boxed (w2.setCell ⟨B, 0, none⟩ (.slice A2 (bs.length + 1) c2)) D t u := by
  have hv1 : Boxed w1 B 26 (.slice A' bs.length c') := (k1.block _ hv.lt).trans hv
  have hrow1 : MineB 35 w1 B A' bs.length c' bs := MineB.below (w := W) hrow k1
  have hK1 : KeepsOthers W w1 := ⟨k1.size, fun k o hk ho => (k1.block k (Array.getElem?_eq_some_iff.1 hk).1).trans hk⟩
  have hsz1 : B ≤ w1.heap.size := Nat.le_trans hB k1.size
  obtain ⟨A2, c2, w2, hrun, hap⟩ := run_append_boxes infoApi 26 (w1.alloc (.cells #[.int .i64 b.d, .int .i64 b.k, .int .i64 b.s, .int .i64 b.c, .int .i64 b.w, .int .i64 b.h, .int .i64 b.m0, .int .i64 b.m1, .int .i64 b.m2, .int .i64 b.m3, .int .i64 b.e0, .int .i64 b.e1, .int .i64 b.e2, .int .i64 b.e3] 35)) B A' bs.length c' bs (hrow1.alloc _) (some ⟨w1.heap.size, 0, none⟩) 1 1 [b] (oneB_src w1 b 35) (by omega) (by simp; omega)
  have hap1 : (w1.alloc (.cells #[.int .i64 b.d, .int .i64 b.k, .int .i64 b.s, .int .i64 b.c, .int .i64 b.w, .int .i64 b.h, .int .i64 b.m0, .int .i64 b.m1, .int .i64 b.m2, .int .i64 b.m3, .int .i64 b.e0, .int .i64 b.e1, .int .i64 b.e2, .int .i64 b.e3] 35)).grownBy w2 (Value.slice A' bs.length c').ownBlock := by
    rw [ownBlock_blk]; exact hap.2.1
  obtain ⟨hv2, hv3, hr3, hk3, hb3⟩ := hv1.appended (by decide) hrow1 hsz1 (Nat.le_refl _) hap.1 hap1
  refine ⟨A2, c2, w2, hrun, hv1, hv1.alloc _, hv2, hv3, hr3, hK1.trans hk3, (k1.mono hB).trans hb3, fun D t u hD ht hne => ?_⟩
  have hD1 : Boxed w1 D t u := (k1.block _ hD.lt).trans hD
  exact ((hD1.alloc _).kept hap1 (hD1.not_row ht hrow1)).kept (grownBy_setCell' w2 B _) (fun e => hne (by injection e))

end Go.Proofs.Ytleikbpikmineaa.Script
