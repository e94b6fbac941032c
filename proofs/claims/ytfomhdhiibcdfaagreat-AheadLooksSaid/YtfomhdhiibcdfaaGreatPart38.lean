/- slices.Backward over the nodes: its contract as an iterator, whatever the body does to the nodes, if only nodes lie there. -/
import Derived.Test.YtfomhdhiibcdfaaGreatPart35
import Derived.RangeFuncNested
import Derived.RangeFuncBound
import Derived.RangeFuncCalls
import Derived.RangeFuncLeaves
import Derived.RangeFuncBox
import Derived.Shelf.Abstract
import Derived.Shelf.RegionOpen
import Derived.WalkKit
import Derived.OwnWalkIn
import Derived.TacticsInMore
import Derived.LoopNIn
import Derived.LoopIn
import Derived.Maps.AppendAt
import Derived.Lib.QuietBelowIn
namespace Go.Proofs.YtfomhdhiibcdfaaGreat.Tree
open Go.RowKit Go.Shelf Go.Sort Go.Proofs.YtfomhdhiibcdfaaGreat.Record Go.Proofs.YtfomhdhiibcdfaaGreat.Script Go.Proofs.YtfomhdhiibcdfaaGreat.More

attribute [local go_sem] Oper.semAt_some

theorem range_back (k m : Nat) : (List.range' k (m + 1)).reverse = (List.range' (k + 1) m).reverse ++ [k] := by
  rw [List.range'_succ, List.reverse_cons]

set_option maxRecDepth 100000 in
set_option maxHeartbeats 2000000 in
theorem back1_in {α : Type} (idx : α → Nat) (nd : α → Nd) (Kp : World → World → Prop) (hKt : ∀ {A B C : World}, Kp A B → Kp B C → Kp A C) (hKr : ∀ W, Kp W W)
    (F : Fence) (nF : Nat) (h39 : F.fn 73) (hro : F.round = none) (hn : 1 ≤ nF) (l Bs n c a : Nat) (hlen : n ≤ 1000) (J Jx : List α → World → Prop)
    (hY : ∀ pre x W, J pre W → pre.length < n → YieldAt F (nF - 1) Tryz.prog l #[.int .i64 (idx x : Int), (nd x).v] W fun e W' =>
      (e = .returned (.bool true) ∧ J (pre ++ [x]) W' ∧ Kp W W') ∨ (e = .returned (.bool false) ∧ Jx (pre ++ [x]) W'))
    (W : World) (hBs : W.cell? ⟨Bs, 0, none⟩ = some (.slice (some ⟨a, 0, none⟩) n c))
    (hKb : ∀ W', Kp W W' → W'.cell? ⟨Bs, 0, none⟩ = W.cell? ⟨Bs, 0, none⟩)
    (hread : ∀ W', Kp W W' → ∀ k, k < n → ∃ x, idx x = k ∧ AtN W' ⟨a, k * 17, none⟩ (nd x)) (h0 : J [] W) :
    CallsIn F nF Tryz.prog 73 #[.func (.yield l) #[] #[], .pointer (some ⟨Bs, 0, none⟩)] W fun e W' => (∃ v, e = .returned v) ∧
      ((∃ ys : List α, ys.map idx = (List.range' 0 n).reverse ∧ J ys W') ∨ (∃ pre : List α, True ∧ Jx pre W')) := by
  have HR := Lib.hid hread
  have HKb := Lib.hid hKb
  have HY := Lib.hid hY
  clear hread hKb hY
  have hwn : IntKind.i64.wrap ((n : Int) - 1) = (n : Int) - 1 := IntWalk.i64_in _ (by omega)
  refine callsIn_of_wp Tryz.func73 rfl h39 ?_ hro
  simp only [Tryz.ntmps73, List.size_toArray, List.length_cons, List.length_nil, Nat.reduceAdd, Nat.reduceSub, Array.replicate_succ, Array.replicate_zero, List.push_toArray, List.append_toArray, List.nil_append, List.cons_append]
  gi_wp2
  gi_loopw [3] (fun i wr => ∃ k : Nat, ∃ pre : List α, k ≤ n ∧ i = .int .i64 ((k : Int) - 1) ∧ pre.map idx = (List.range' k (n - k)).reverse ∧ J pre wr ∧ Hid (Kp W wr))
    (fun i _ => (intOf i + 1).toNat)
  case atStart => exact ⟨n, [], Nat.le_refl _, rfl, by simp, h0, Lib.hid (hKr _)⟩
  case round =>
    obtain ⟨k, pre, hk, hi, hpre, hJs, hkp⟩ := hrel
    have hs : wr.cell? ⟨Bs, 0, none⟩ = some (.slice (some ⟨a, 0, none⟩) n c) := (HKb.out _ hkp.out).trans hBs
    rcases Nat.eq_zero_or_pos k with hk0 | hk0
    · subst hk0
      subst hi
      gi_wp2
      go_end0
      exact ⟨⟨_, rfl⟩, .inl ⟨pre, by simpa using hpre, hJs⟩⟩
    · obtain ⟨j, rfl⟩ : ∃ j, k = j + 1 := ⟨k - 1, by omega⟩
      have e : ((j + 1 : Nat) : Int) - 1 = (j : Int) := by omega
      rw [e] at hi
      subst hi
      have hlen1 : pre.length = n - (j + 1) := by have := congrArg List.length hpre; simpa using this
      obtain ⟨x, hx, hat⟩ := HR.out _ hkp.out j (by omega)
      obtain ⟨fn, tmps, assign, body, hy, hR⟩ := HY.out pre x wr hJs (by omega)
      have HX := Lib.hid hx
      rw [hx] at hy
      obtain ⟨⟨c0, c1, c2, c3, c4, c5, c6, c7, c8, c9, c10, c11, c12, c13⟩, c14, c15, c16⟩ := hat
      have hjn : (j : Int) < (n : Int) := by omega
      have hwj : IntKind.i64.wrap ((j : Int) - 1) = (j : Int) - 1 := IntWalk.i64_in _ (by omega)
      clear hx
      gi_wp2
      clear c0 c1 c2 c3 c4 c5 c6 c7 c8 c9 c10 c11 c12 c13 c14 c15 c16 hs
      refine hR.mono ?_
      rintro e W3 (⟨rfl, hJ3, hk3⟩ | ⟨rfl, hJx3⟩)
      · have HK3 := Lib.hid hk3
        clear hk3
        gi_wp2
        go_roundw
        case rel =>
          refine ⟨j, pre ++ [x], by omega, rfl, ?_, hJ3, Lib.hid (hKt hkp.out HK3.out)⟩
          rw [List.map_append, hpre, show n - j = (n - (j + 1)) + 1 by omega, range_back, List.map_cons, List.map_nil, HX.out]
        case measure => simp [intOf]
      · gi_wp2
        refine bodyPost_ret (results_none rfl _ _ _) rfl ?_
        exact ⟨⟨_, rfl⟩, .inr ⟨_, trivial, hJx3⟩⟩

set_option maxHeartbeats 1000000 in
/-- slices.Backward(s): it is boxed; the function value captures the box. -/
theorem back_in (F : Fence) (n : Nat) (h33 : F.fn 59) (hro : F.round = none) (A : Option Addr) (len c : Nat) (w : World) :
    CallsIn F n Tryz.prog 59 #[.slice A len c] w fun e w' => e = .returned (.func (.func 73) #[] #[.pointer (some ⟨w.heap.size, 0, none⟩)]) ∧ w' = w.alloc (.cells #[.slice A len c] 97) := by
  refine callsIn_of_wp Tryz.func59 rfl h33 ?_ hro
  simp only [Tryz.ntmps59, List.size_toArray, List.length_cons, List.length_nil, Nat.reduceAdd, Nat.reduceSub, Array.replicate_succ, Array.replicate_zero, List.push_toArray, List.append_toArray, List.nil_append, List.cons_append]
  gi_wp2
  go_ret
  exact ⟨rfl, rfl⟩

/-- What slices.Backward hands back stops: all places, the last one first, or some. -/
theorem back_stops {α : Type} (idx : α → Nat) (nd : α → Nd) (Kp : World → World → Prop) (hKt : ∀ {A B C : World}, Kp A B → Kp B C → Kp A C) (hKr : ∀ W, Kp W W)
    (F : Fence) (nF : Nat) (h39 : F.fn 73) (hro : F.round = none) (hn : 1 ≤ nF) (Bs n c a : Nat) (hlen : n ≤ 1000) (w : World)
    (hBs : w.cell? ⟨Bs, 0, none⟩ = some (.slice (some ⟨a, 0, none⟩) n c))
    (hKb : ∀ W W', Kp W W' → W'.cell? ⟨Bs, 0, none⟩ = W.cell? ⟨Bs, 0, none⟩)
    (hread : ∀ W W', Below w.heap.size w W → Kp W W' → ∀ k, k < n → ∃ x, idx x = k ∧ AtN W' ⟨a, k * 17, none⟩ (nd x)) :
    SeqStopsK F nF Tryz.prog 73 #[.pointer (some ⟨Bs, 0, none⟩)] (fun x : α => #[.int .i64 (idx x : Int), (nd x).v]) Kp (fun ys => ys.map idx = (List.range' 0 n).reverse) (fun _ => True) n w := fun l J Jx W hW _ _ hY h0 => by
  have hc := (hW.cell (p := ⟨Bs, 0, none⟩) (block_lt_of_cell hBs)).trans hBs
  exact back1_in idx nd Kp hKt hKr F nF h39 hro hn l Bs n c a hlen J Jx hY W hc (hKb W) (fun W' => hread W W' hW) h0

end Go.Proofs.YtfomhdhiibcdfaaGreat.Tree
