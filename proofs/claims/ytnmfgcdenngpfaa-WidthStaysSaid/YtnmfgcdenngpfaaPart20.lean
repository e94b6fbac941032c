/- The program's nodes as they lie in memory; the contracts of at, Len, Box, Parent, End and Context. -/
import Derived.Test.YtnmfgcdenngpfaaPart9
import Derived.RangeFuncBox
import Derived.Deep.MidRow
import Derived.Laws.CopyOwn
import Derived.Deep.DeepCutAuto
namespace Go.Proofs.Ytnmfgcdenngpfaa.Tree
open Go.RowKit Go.Sort Go.Proofs.Ytnmfgcdenngpfaa.Record Go.Proofs.Ytnmfgcdenngpfaa.Script Go.Proofs.Ytnmfgcdenngpfaa.More

/-- A node: its box, its parent, where it ends, and its context. -/
structure Nd where
  b : Bx
  p : Int
  e : Int
  c : Int

abbrev Nd.v (x : Nd) : Value :=
  .agg #[.int .i64 x.b.d, .int .i64 x.b.k, .int .i64 x.b.s, .int .i64 x.b.c, .int .i64 x.b.w, .int .i64 x.b.h, .int .i64 x.b.m0, .int .i64 x.b.m1, .int .i64 x.b.m2, .int .i64 x.b.m3, .int .i64 x.b.e0, .int .i64 x.b.e1, .int .i64 x.b.e2, .int .i64 x.b.e3, .int .i64 x.p, .int .i64 x.e, .int .i64 x.c]

def cellsOfN (x : Nd) : List Value :=
  [.int .i64 x.b.d, .int .i64 x.b.k, .int .i64 x.b.s, .int .i64 x.b.c, .int .i64 x.b.w, .int .i64 x.b.h, .int .i64 x.b.m0, .int .i64 x.b.m1, .int .i64 x.b.m2, .int .i64 x.b.m3, .int .i64 x.b.e0, .int .i64 x.b.e1, .int .i64 x.b.e2, .int .i64 x.b.e3, .int .i64 x.p, .int .i64 x.e, .int .i64 x.c]

theorem cellsOfN_one (x : Nd) : ∀ u ∈ cellsOfN x, u.oneCell' = true := by
  intro u h
  simp only [cellsOfN, List.mem_cons, List.not_mem_nil, or_false] at h
  rcases h with h | h | h | h | h | h | h | h | h | h | h | h | h | h | h | h | h <;> (subst h; rfl)

def encN : Enc Nd := ⟨17, cellsOfN, fun _ => rfl, cellsOfN_one, by omega⟩

theorem infoN : InfoE encN 58 61 136 :=
  ⟨Try.underlying61, .agg #[.int .i64 0, .int .i64 0, .int .i64 0, .int .i64 0, .int .i64 0, .int .i64 0, .int .i64 0, .int .i64 0, .int .i64 0, .int .i64 0, .int .i64 0, .int .i64 0, .int .i64 0, .int .i64 0, .int .i64 0, .int .i64 0, .int .i64 0], rfl, by kernel_rfl⟩

abbrev MineN (w : World) (B : Nat) (A : Option Addr) (n c : Nat) (xs : List Nd) : Prop := MineE encN 58 w B A n c xs

/-- A node that lies at an address. -/
def AtN (w : World) (p : Addr) (x : Nd) : Prop :=
  AtP w p x.b ∧ w.cell? ⟨p.block, p.off + 14, none⟩ = some (.int .i64 x.p) ∧ w.cell? ⟨p.block, p.off + 15, none⟩ = some (.int .i64 x.e) ∧ w.cell? ⟨p.block, p.off + 16, none⟩ = some (.int .i64 x.c)

theorem AtN.of_mine {w : World} {B g n c : Nat} {xs : List Nd} (h : MineN w B (some ⟨g, 0, none⟩) n c xs) (k : Nat) (x : Nd) (hx : xs[k]? = some x) : AtN w ⟨g, k * 17, none⟩ x := by
  have e : ∀ j u, (cellsOfN x)[j]? = some u → w.cell? ⟨g, k * 17 + j, none⟩ = some u := fun j u hu => by
    have hj : j < 17 := (List.getElem?_eq_some_iff.1 hu).1
    exact (h.at k x hx j hj).trans hu
  have e0 := e 0 _ rfl
  exact ⟨⟨e0, e 1 _ rfl, e 2 _ rfl, e 3 _ rfl, e 4 _ rfl, e 5 _ rfl, e 6 _ rfl, e 7 _ rfl, e 8 _ rfl, e 9 _ rfl, e 10 _ rfl, e 11 _ rfl, e 12 _ rfl, e 13 _ rfl⟩, e 14 _ rfl, e 15 _ rfl, e 16 _ rfl⟩

theorem add_g0 (g k : Nat) : (⟨g, 0, none⟩ : Addr).add k = ⟨g, k, none⟩ := by
  rw [add_flat]; simp

def noN : Nd := ⟨noB, -1, -1, -1⟩

/-- The node of a place. -/
def nodeAt (ns : List Nd) (i : Int) : Nd := if 0 ≤ i ∧ i < ns.length then ns.getD i.toNat noN else noN

/-- The nodes of a tree lie in a slice, of which a box of one cell tells. -/
structure InT (w : World) (B g : Nat) (A : Option Addr) (c : Nat) (ns : List Nd) : Prop where
  box : Boxed w g 63 (.slice A ns.length c)
  mine : MineN w B A ns.length c ns

theorem InT.below {w w' : World} {B g : Nat} {A : Option Addr} {c : Nat} {ns : List Nd} (h : InT w B g A c ns) (k : Below w.heap.size w w') : InT w' B g A c ns :=
  ⟨h.box.kept (grown_of_below k) (by simp), h.mine.below k⟩

theorem InT.alloc {w : World} {B g : Nat} {A : Option Addr} {c : Nat} {ns : List Nd} (h : InT w B g A c ns) (o : Obj) : InT (w.alloc o) B g A c ns := ⟨h.box.alloc o, h.mine.alloc o⟩

theorem InT.at {w : World} {B g : Nat} {A : Option Addr} {c : Nat} {ns : List Nd} (h : InT w B g A c ns) (k : Nat) (hk : k < ns.length) : ∃ a, A = some ⟨a, 0, none⟩ ∧ a < w.heap.size ∧ ns.length ≤ c ∧ AtN w ⟨a, k * 17, none⟩ (ns.getD k noN) := by
  obtain ⟨a, rfl, _, ha, hc, _⟩ := h.mine.form (by omega)
  exact ⟨a, rfl, ha, hc, AtN.of_mine h.mine k _ (by simp [List.getD, hk])⟩

theorem AtN.range {w : World} {a o : Nat} {x : Nd} (h : AtN w ⟨a, o, none⟩ x) : w.rangeAt a o (cellsOfN x) := by
  obtain ⟨⟨c0, c1, c2, c3, c4, c5, c6, c7, c8, c9, c10, c11, c12, c13⟩, c14, c15, c16⟩ := h
  intro j v hj
  have hlt : j < 17 := (List.getElem?_eq_some_iff.1 hj).1
  obtain rfl | rfl | rfl | rfl | rfl | rfl | rfl | rfl | rfl | rfl | rfl | rfl | rfl | rfl | rfl | rfl | rfl : j = 0 ∨ j = 1 ∨ j = 2 ∨ j = 3 ∨ j = 4 ∨ j = 5 ∨ j = 6 ∨ j = 7 ∨ j = 8 ∨ j = 9 ∨ j = 10 ∨ j = 11 ∨ j = 12 ∨ j = 13 ∨ j = 14 ∨ j = 15 ∨ j = 16 := by omega
  all_goals (injection hj with hj; subst hj; assumption)

theorem AtN.below {w w' : World} {B : Nat} {p : Addr} {x : Nd} (h : AtN w p x) (hp : p.block < B) (k : Below B w w') : AtN w' p x := by
  have e : ∀ o, w'.cell? ⟨p.block, o, none⟩ = w.cell? ⟨p.block, o, none⟩ := fun o => k.cell (p := ⟨p.block, o, none⟩) hp
  obtain ⟨h0, h1, h2, h3⟩ := h
  exact ⟨h0.below hp k, (e _).trans h1, (e _).trans h2, (e _).trans h3⟩

def zeroN : Array Value := #[.int .i64 0, .int .i64 0, .int .i64 0, .int .i64 0, .int .i64 0, .int .i64 0, .int .i64 0, .int .i64 0, .int .i64 0, .int .i64 0, .int .i64 0, .int .i64 0, .int .i64 0, .int .i64 0, .int .i64 0, .int .i64 0, .int .i64 0]

theorem sizeN : (Try.prog.info? 58).map (·.size) = some 17 := by kernel_rfl

set_option maxRecDepth 100000 in
set_option maxHeartbeats 1000000 in
theorem at_in (w : World) (B g : Nat) (A : Option Addr) (c : Nat) (ns : List Nd) (k : Nat) (hk : k < ns.length) (hT : InT w B g A c ns) :
    Calls Try.prog 35 #[.pointer (some ⟨g, 0, none⟩), .int .i64 (k : Int)] w fun e w' => e = .returned (ns.getD k noN).v ∧ Below w.heap.size w w' := by
  have hc := hT.box.cell
  have hlt := hT.box.lt
  obtain ⟨a, rfl, ha, hcap, hx⟩ := hT.at k hk
  generalize ns.getD k noN = x at hx
  have hg1 : ¬ (k : Int) < 0 := by omega
  have hg2 : ¬ (ns.length : Int) ≤ (k : Int) := by omega
  generalize ns.length = n at *
  clear hT
  go_enter Try.func35, Try.ntmps35
  go_upto_region 1 with fail
  generalize hW : w.alloc _ = W
  have hb : Below w.heap.size w W := by subst hW; exact ba1 _ _
  have hz : W.heap[w.heap.size]? = some (.cells zeroN 58) := by subst hW; exact heap_alloc_new _ _
  have hc1 : W.cell? ⟨g, 0, none⟩ = some (.slice (some ⟨a, 0, none⟩) n c) := (hb.cell (p := ⟨g, 0, none⟩) hlt).trans hc
  have hR := (hx.below ha hb).range
  clear hc hlt hx hW
  go_wp2_with (first
    | (refine wpList_load_mid rfl 58 (.tmp 22) rfl a (k * 17) rfl (cellsOfN x) _ hR Try.underlying58 rfl sizeN ?_)
    | (refine wpList_store_row rfl 58 (.tmp 4) (.tmp 23) rfl w.heap.size (cellsOfN x).toArray rfl rfl 58 zeroN hz sizeN rfl (all_oneCell_toArray (cellsOfN_one x)) ?_))
  have hz2 := setRow_heap W w.heap.size zeroN (cellsOfN x).toArray _ _ hz
  exact bodyPost_ret (v := x.v) (results_cell_row (p := 4) (ty := 58) rfl _ _ w.heap.size _ (cellsOfN x).toArray _ _ rfl hz2 Try.underlying58 rfl sizeN) rfl ⟨rfl, below_setRow hb (Nat.le_refl _) _⟩

set_option maxRecDepth 100000 in
set_option maxHeartbeats 1000000 in
theorem at_out (w : World) (B g : Nat) (A : Option Addr) (c : Nat) (ns : List Nd) (i : Int) (hi : ¬ (0 ≤ i ∧ i < ns.length)) (hT : InT w B g A c ns) :
    Calls Try.prog 35 #[.pointer (some ⟨g, 0, none⟩), .int .i64 i] w fun e w' => e = .returned noN.v ∧ Below w.heap.size w w' := by
  have hc := hT.box.cell
  have hlt := hT.box.lt
  generalize ns.length = n at *
  clear hT
  go_enter Try.func35, Try.ntmps35
  go_upto_region 1 with fail
  generalize hW : w.alloc _ = W
  have hb : Below w.heap.size w W := by subst hW; exact ba1 _ _
  have hz : W.heap[w.heap.size]? = some (.cells zeroN 58) := by subst hW; exact heap_alloc_new _ _
  have hc1 : W.cell? ⟨g, 0, none⟩ = some (.slice A n c) := (hb.cell (p := ⟨g, 0, none⟩) hlt).trans hc
  clear hc hlt hW
  by_cases h : i < 0
  · go_wp2_with (first | (refine wpList_store_row rfl 58 (.tmp 4) (.tmp 16) rfl w.heap.size (cellsOfN noN).toArray rfl rfl 58 zeroN hz sizeN rfl (all_oneCell_toArray (cellsOfN_one noN)) ?_))
    have hz2 := setRow_heap W w.heap.size zeroN (cellsOfN noN).toArray _ _ hz
    exact bodyPost_ret (v := noN.v) (results_cell_row (p := 4) (ty := 58) rfl _ _ w.heap.size _ (cellsOfN noN).toArray _ _ rfl hz2 Try.underlying58 rfl sizeN) rfl ⟨rfl, below_setRow hb (Nat.le_refl _) _⟩
  · have h2 : (n : Int) ≤ i := by omega
    go_wp2_with (first | (refine wpList_store_row rfl 58 (.tmp 4) (.tmp 16) rfl w.heap.size (cellsOfN noN).toArray rfl rfl 58 zeroN hz sizeN rfl (all_oneCell_toArray (cellsOfN_one noN)) ?_))
    have hz2 := setRow_heap W w.heap.size zeroN (cellsOfN noN).toArray _ _ hz
    exact bodyPost_ret (v := noN.v) (results_cell_row (p := 4) (ty := 58) rfl _ _ w.heap.size _ (cellsOfN noN).toArray _ _ rfl hz2 Try.underlying58 rfl sizeN) rfl ⟨rfl, below_setRow hb (Nat.le_refl _) _⟩

theorem at_any (w : World) (B g : Nat) (A : Option Addr) (c : Nat) (ns : List Nd) (i : Int) (hT : InT w B g A c ns) :
    Calls Try.prog 35 #[.pointer (some ⟨g, 0, none⟩), .int .i64 i] w fun e w' => e = .returned (nodeAt ns i).v ∧ Below w.heap.size w w' := by
  unfold nodeAt
  by_cases h : 0 ≤ i ∧ i < ns.length
  · rw [if_pos h]
    obtain ⟨k, rfl⟩ : ∃ k : Nat, i = k := ⟨i.toNat, by omega⟩
    exact at_in w B g A c ns k (by omega) hT
  · rw [if_neg h]
    exact at_out w B g A c ns i h hT

theorem fieldN0 (x : Nd) (w : World) : (Instr.field 58 x.v 0).run Try.prog w = .ok x.b.v w := by kernel_rfl
theorem fieldN1 (x : Nd) (w : World) : (Instr.field 58 x.v 1).run Try.prog w = .ok (.int .i64 x.p) w := by kernel_rfl
theorem fieldN2 (x : Nd) (w : World) : (Instr.field 58 x.v 2).run Try.prog w = .ok (.int .i64 x.e) w := by kernel_rfl
theorem fieldN3 (x : Nd) (w : World) : (Instr.field 58 x.v 3).run Try.prog w = .ok (.int .i64 x.c) w := by kernel_rfl

set_option maxHeartbeats 1000000 in
theorem tlen_any (w : World) (B g : Nat) (A : Option Addr) (c : Nat) (ns : List Nd) (hT : InT w B g A c ns) :
    Calls Try.prog 32 #[.pointer (some ⟨g, 0, none⟩)] w fun e w' => e = .returned (.int .i64 (ns.length : Int)) ∧ Below w.heap.size w w' := by
  have hc := hT.box.cell
  clear hT
  go_enter Try.func32, Try.ntmps32
  go_wp2_with fail
  go_ret
  exact ⟨rfl, Below.refl _ _⟩

def zeroB : Array Value := #[.int .i64 0, .int .i64 0, .int .i64 0, .int .i64 0, .int .i64 0, .int .i64 0, .int .i64 0, .int .i64 0, .int .i64 0, .int .i64 0, .int .i64 0, .int .i64 0, .int .i64 0, .int .i64 0]

theorem sizeB : (Try.prog.info? 28).map (·.size) = some 14 := by kernel_rfl

theorem cellsOfB_one (x : Bx) : ∀ u ∈ cellsOfB x, u.oneCell' = true := by
  intro u h
  simp only [cellsOfB, List.mem_cons, List.not_mem_nil, or_false] at h
  rcases h with h | h | h | h | h | h | h | h | h | h | h | h | h | h <;> (subst h; rfl)

set_option maxHeartbeats 1000000 in
theorem tbox_any (w : World) (B g : Nat) (A : Option Addr) (c : Nat) (ns : List Nd) (i : Int) (hT : InT w B g A c ns) :
    Calls Try.prog 23 #[.pointer (some ⟨g, 0, none⟩), .int .i64 i] w fun e w' => e = .returned (nodeAt ns i).b.v ∧ Below w.heap.size w w' := by
  obtain ⟨x, hx⟩ : ∃ x, nodeAt ns i = x := ⟨_, rfl⟩
  rw [hx]
  go_enter Try.func23, Try.ntmps23
  go_upto_region 1 with fail
  generalize hW : w.alloc _ = W
  have hb : Below w.heap.size w W := by subst hW; exact ba1 _ _
  have hz : W.heap[w.heap.size]? = some (.cells zeroB 28) := by subst hW; exact heap_alloc_new _ _
  have hA := at_any _ B g A c ns i (hT.below hb)
  rw [hx] at hA
  have hf := fieldN0 x
  clear hW hT hx
  have hlt : w.heap.size < W.heap.size := (Array.getElem?_eq_some_iff.1 hz).1
  go_wp2_with (first
    | (go_at_call 35; refine hA.mono ?_; rintro e w1 ⟨rfl, k1⟩; have hz1 := (k1.block _ hlt).trans hz)
    | (refine wpList_store_row rfl 28 (.tmp 4) (.tmp 8) rfl w.heap.size (cellsOfB x.b).toArray rfl rfl 28 zeroB hz1 sizeB rfl (all_oneCell_toArray (cellsOfB_one x.b)) ?_))
  have hz2 := setRow_heap w1 w.heap.size zeroB (cellsOfB x.b).toArray _ _ hz1
  exact bodyPost_ret (v := x.b.v) (results_cell_row (p := 4) (ty := 28) rfl _ _ w.heap.size _ (cellsOfB x.b).toArray _ _ rfl hz2 Try.underlying28 rfl sizeB) rfl ⟨rfl, below_setRow (thru hb k1) (Nat.le_refl _) _⟩

set_option maxHeartbeats 1000000 in
theorem tpar_any (w : World) (B g : Nat) (A : Option Addr) (c : Nat) (ns : List Nd) (i : Int) (hT : InT w B g A c ns) :
    Calls Try.prog 24 #[.pointer (some ⟨g, 0, none⟩), .int .i64 i] w fun e w' => e = .returned (.int .i64 (nodeAt ns i).p) ∧ Below w.heap.size w w' := by
  have hA := at_any _ B g A c ns i hT
  have hf := fieldN1 (nodeAt ns i)
  generalize nodeAt ns i = x at *
  clear hT
  go_enter Try.func24, Try.ntmps24
  go_wp2_with (first
    | (go_at_call 35; refine hA.mono ?_; rintro e w1 ⟨rfl, k1⟩))
  go_ret
  exact ⟨rfl, k1⟩

end Go.Proofs.Ytnmfgcdenngpfaa.Tree
