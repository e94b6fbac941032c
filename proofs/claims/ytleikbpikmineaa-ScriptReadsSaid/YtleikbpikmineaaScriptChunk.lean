/- slices.Chunk over a list of numbers, fourteen at a time: its contract as an iterator. -/
import Derived.Test.YtleikbpikmineaaScriptDec
import Derived.RangeFuncNested
import Derived.RangeFuncBound
import Derived.RangeFuncCalls
import Derived.RangeFuncLeaves
import Derived.RangeFuncBox
import Derived.Shelf.Abstract
import Derived.Shelf.RegionOpen
import Derived.WalkKit
import Derived.OwnWalkIn
import Derived.TacticsInMore
import Derived.LoopNIn
import Derived.LoopIn
import Derived.Maps.AppendAt
import Derived.Lib.QuietBelowIn
namespace Go.Proofs.Ytleikbpikmineaa.Script
open Go.RowKit Go.Shelf Go.Sort Go.Proofs.Ytleikbpikmineaa.Record

attribute [local go_sem] Oper.semAt_some

/-- What a round keeps: the two boxes that the iterator has captured. -/
structure Two (Bs Bn : Nat) (W W' : World) : Prop where
  size : W.heap.size ≤ W'.heap.size
  one : W'.heap[Bs]? = W.heap[Bs]?
  two : W'.heap[Bn]? = W.heap[Bn]?

theorem Two.refl (Bs Bn : Nat) (W : World) : Two Bs Bn W W := ⟨Nat.le_refl _, rfl, rfl⟩
theorem Two.trans {Bs Bn : Nat} {A B C : World} (h : Two Bs Bn A B) (k : Two Bs Bn B C) : Two Bs Bn A C := ⟨Nat.le_trans h.size k.size, k.one.trans h.one, k.two.trans h.two⟩
theorem Two.cell1 {Bs Bn : Nat} {W W' : World} (h : Two Bs Bn W W') : W'.cell? ⟨Bs, 0, none⟩ = W.cell? ⟨Bs, 0, none⟩ := by simp [World.cell?, h.one]
theorem Two.cell2 {Bs Bn : Nat} {W W' : World} (h : Two Bs Bn W W') : W'.cell? ⟨Bn, 0, none⟩ = W.cell? ⟨Bn, 0, none⟩ := by simp [World.cell?, h.two]
theorem Two.below {Bs Bn N : Nat} {W W' : World} (h : Below N W W') (h1 : Bs < N) (h2 : Bn < N) : Two Bs Bn W W' := ⟨h.size, h.block _ h1, h.block _ h2⟩
theorem Two.put {Bs Bn N : Nat} (h1 : Bs < N) (h2 : Bn < N) (W : World) (l : Nat) (o o' : Obj) (hl : N ≤ l) (_ : W.heap[l]? = some o) (_ : o.isCells = false) (_ : o.isWalk = false) : Two Bs Bn W (W.putObj l o') :=
  ⟨by simp, World.putObj_heap_other (by omega), World.putObj_heap_other (by omega)⟩

set_option maxRecDepth 100000 in
set_option maxHeartbeats 2000000 in
theorem chunk1_in (F : Fence) (n : Nat) (h19 : F.fn 19) (hro : F.round = none) (hn : 1 ≤ n) (l Bs Bn m c : Nat) (ad : Addr) (hm : m ≤ 65536) (hcap : m * 14 ≤ c) (J Jx : List { k : Nat // k < m } → World → Prop) (hJ : ∀ s W W', J s W → W.grownBy W' none → J s W')
    (hY : ∀ pre x W, J pre W → pre.length < m → YieldAt F (n - 1) Try.prog l #[.slice (some (ad.add (x.1 * 14))) 14 14] W fun e W' =>
      (e = .returned (.bool true) ∧ J (pre ++ [x]) W' ∧ Two Bs Bn W W') ∨ (e = .returned (.bool false) ∧ Jx (pre ++ [x]) W'))
    (W : World) (hBs : W.cell? ⟨Bs, 0, none⟩ = some (.slice (some ad) (m * 14) c)) (hBn : W.cell? ⟨Bn, 0, none⟩ = some (.int .i64 14)) (h0 : J [] W) :
    CallsIn F n Try.prog 19 #[.func (.yield l) #[] #[], .pointer (some ⟨Bs, 0, none⟩), .pointer (some ⟨Bn, 0, none⟩)] W fun e W' => (∃ v, e = .returned v) ∧
      ((∃ ys : List { k : Nat // k < m }, ys.map (·.1) = List.range m ∧ J ys W') ∨ (∃ pre : List { k : Nat // k < m }, True ∧ Jx pre W')) := by
  refine callsIn_of_wp Try.func19 rfl h19 ?_ hro
  simp only [Try.ntmps19, List.size_toArray, List.length_cons, List.length_nil, Nat.reduceAdd, Nat.reduceSub, Array.replicate_succ, Array.replicate_zero, List.push_toArray, List.append_toArray, List.nil_append, List.cons_append]
  gi_wp2
  gi_loopw [4] (fun i wr => ∃ k : Nat, ∃ pre : List { k : Nat // k < m }, k ≤ m ∧ i = .int .i64 ((k * 14 : Nat) : Int) ∧ pre.map (·.1) = List.range k ∧ J pre wr ∧ Two Bs Bn W wr)
    (fun i _ => m * 14 - (intOf i).toNat)
  case atStart => exact ⟨0, [], Nat.zero_le _, rfl, rfl, h0, Two.refl _ _ _⟩
  case round =>
    obtain ⟨k, pre, hk, rfl, hpre, hJs, hnx⟩ := hrel
    have hs : wr.cell? ⟨Bs, 0, none⟩ = some (.slice (some ad) (m * 14) c) := hnx.cell1.trans hBs
    have hnn : wr.cell? ⟨Bn, 0, none⟩ = some (.int .i64 14) := hnx.cell2.trans hBn
    by_cases hlt : k < m
    · have hlen : pre.length = k := by have := congrArg List.length hpre; simpa using this
      gi_wp2
      have hs' := fun d os => cell_regrown hs (d := d) (os := os)
      have hnn' := fun d os => cell_regrown hnn (d := d) (os := os)
      have ht : (k * 14) + 14 ≤ m * 14 := by omega
      have h1 : (0 : Int) ≤ (k : Int) * 14 := by omega
      have h2 : ((k : Int) * 14).toNat = k * 14 := by omega
      have h3 : ¬ c = k * 14 := by omega
      obtain ⟨q, hq⟩ : ∃ q, m * 14 - k * 14 = q := ⟨_, rfl⟩
      have hq14 : ¬ (q : Int) < 14 := by omega
      refine wpIn_region_quiet_below hro (by kernel_rfl) (by kernel_rfl) ?_
      repeat (quiet_step_in (fail))
      refine wpQuietIn_nil ?_
      intro _ hw'
      obtain ⟨⟨dq, os⟩, hw''⟩ := hw'
      subst hw''
      have hg4 := below_regrown wr dq os
      generalize grow (redrawn wr dq) os = w4 at hg4 ⊢
      have hJ4 := hJ _ _ _ hJs (grown_of_below hg4)
      have hs4 : w4.cell? ⟨Bs, 0, none⟩ = some (.slice (some ad) (m * 14) c) := (hg4.cell (p := ⟨Bs, 0, none⟩) (World.block_lt_of_cell? _ _ hs)).trans hs
      have hn4 : w4.cell? ⟨Bn, 0, none⟩ = some (.int .i64 14) := (hg4.cell (p := ⟨Bn, 0, none⟩) (World.block_lt_of_cell? _ _ hnn)).trans hnn
      have hk4 : Two Bs Bn W w4 := hnx.trans (Two.below hg4 (World.block_lt_of_cell? _ _ hs) (World.block_lt_of_cell? _ _ hnn))
      obtain ⟨fn, tmps, assign, body, hy, hR⟩ := hY pre ⟨k, hlt⟩ w4 hJ4 (by omega)
      dsimp only at hy
      clear hs hnn hs' hnn' hg4
      gi_wp2
      refine hR.mono ?_
      rintro e W3 (⟨rfl, hJ3, hk3⟩ | ⟨rfl, hJx3⟩)
      · have hn3 : W3.cell? ⟨Bn, 0, none⟩ = some (.int .i64 14) := hk3.cell2.trans hn4
        gi_wp2
        go_roundw
        case rel => exact ⟨k + 1, pre ++ [⟨k, hlt⟩], by omega, by simp; omega, by rw [List.map_append, hpre, List.range_succ]; rfl, hJ3, hk4.trans hk3⟩
        case measure => simp [intOf]; omega
      · gi_wp2
        refine bodyPost_ret (results_none rfl _ _ _) rfl ?_
        exact ⟨⟨_, rfl⟩, .inr ⟨_, trivial, hJx3⟩⟩
    · obtain rfl : k = m := by omega
      gi_wp2
      go_end0
      exact ⟨⟨_, rfl⟩, .inl ⟨pre, hpre, hJs⟩⟩

set_option maxRecDepth 100000 in
set_option maxHeartbeats 1000000 in
theorem chunk1_nil_in (F : Fence) (n : Nat) (h19 : F.fn 19) (hro : F.round = none) (l Bs Bn c : Nat) (A : Option Addr) (J : List { k : Nat // k < 0 } → World → Prop)
    (W : World) (hBs : W.cell? ⟨Bs, 0, none⟩ = some (.slice A 0 c)) (h0 : J [] W) :
    CallsIn F n Try.prog 19 #[.func (.yield l) #[] #[], .pointer (some ⟨Bs, 0, none⟩), .pointer (some ⟨Bn, 0, none⟩)] W fun e W' => (∃ v, e = .returned v) ∧ J [] W' := by
  refine callsIn_of_wp Try.func19 rfl h19 ?_ hro
  simp only [Try.ntmps19, List.size_toArray, List.length_cons, List.length_nil, Nat.reduceAdd, Nat.reduceSub, Array.replicate_succ, Array.replicate_zero, List.push_toArray, List.append_toArray, List.nil_append, List.cons_append]
  gi_wp2
  gi_loopw [4] (fun i wr => i = .int .i64 0 ∧ J [] wr ∧ wr.cell? ⟨Bs, 0, none⟩ = some (.slice A 0 c)) (fun _ _ => 0)
  case atStart => exact ⟨rfl, h0, hBs⟩
  case round =>
    obtain ⟨rfl, hJs, hs⟩ := hrel
    gi_wp2
    go_end0
    exact ⟨⟨_, rfl⟩, hJs⟩

set_option maxHeartbeats 1000000 in
/-- slices.Chunk(s, 14): both are boxed; the function value captures the boxes. -/
theorem chunk_in (F : Fence) (n : Nat) (h17 : F.fn 17) (hro : F.round = none) (A : Option Addr) (len c : Nat) (w : World) :
    CallsIn F n Try.prog 17 #[.slice A len c, .int .i64 14] w fun e w' => e = .returned (.func (.func 19) #[] #[.pointer (some ⟨w.heap.size, 0, none⟩), .pointer (some ⟨w.heap.size + 1, 0, none⟩)]) ∧ w' = (w.alloc (.cells #[.slice A len c] 24)).alloc (.cells #[.int .i64 14] 3) := by
  refine callsIn_of_wp Try.func17 rfl h17 ?_ hro
  simp only [Try.ntmps17, List.size_toArray, List.length_cons, List.length_nil, Nat.reduceAdd, Nat.reduceSub, Array.replicate_succ, Array.replicate_zero, List.push_toArray, List.append_toArray, List.nil_append, List.cons_append]
  gi_wp2
  go_ret
  exact ⟨rfl, rfl⟩

/-- What slices.Chunk hands back stops: all whole pieces, in order, or some. -/
theorem chunk_stops (F : Fence) (n : Nat) (h19 : F.fn 19) (hro : F.round = none) (hn : 1 ≤ n) (Bs Bn m c : Nat) (A : Option Addr) (hA : 0 < m → ∃ ad, A = some ad) (hm : m ≤ 65536) (hcap : m * 14 ≤ c) (w : World)
    (hBs : w.cell? ⟨Bs, 0, none⟩ = some (.slice A (m * 14) c)) (hBn : w.cell? ⟨Bn, 0, none⟩ = some (.int .i64 14)) :
    SeqStopsK F n Try.prog 19 #[.pointer (some ⟨Bs, 0, none⟩), .pointer (some ⟨Bn, 0, none⟩)] (fun x : { k : Nat // k < m } => #[.slice (A.map (·.add (x.1 * 14))) 14 14]) (Two Bs Bn) (fun ys => ys.map (·.1) = List.range m) (fun _ => True) m w := fun l J Jx W hW hJ _ hY h0 => by
  have h2 := Two.below hW (World.block_lt_of_cell? _ _ hBs) (World.block_lt_of_cell? _ _ hBn)
  have hs := h2.cell1.trans hBs
  have hb := h2.cell2.trans hBn
  rcases Nat.eq_zero_or_pos m with h | h
  · subst h
    exact (chunk1_nil_in F n h19 hro l Bs Bn c A J W (by simpa using hs) h0).mono fun e W' ⟨he, hj⟩ => ⟨he, .inl ⟨[], rfl, hj⟩⟩
  · obtain ⟨ad, rfl⟩ := hA h
    exact chunk1_in F n h19 hro hn l Bs Bn m c ad hm hcap J Jx (fun s W W' hs hg => hJ s W W' none hs hg (fun r e => by cases e)) hY W hs hb h0

end Go.Proofs.Ytleikbpikmineaa.Script
