/- Texts of this proof that follow each other, in one file. -/
import Derived.Test.YtfomhdhiibcdfaaPart28
import Derived.Test.YtfomhdhiibcdfaaPart9
import Derived.Test.YtfomhdhiibcdfaaPart21
import Derived.RangeFuncBox
import Derived.Deep.MidRow
import Derived.Laws.CopyOwn
import Derived.Deep.DeepCutAuto
/-! The trees that looks go through; the law's example. -/
namespace Go.Proofs.Ytfomhdhiibcdfaa.Ahead
open Go.RowKit Go.Sort Go.Proofs.Ytfomhdhiibcdfaa.More Go.Proofs.Ytfomhdhiibcdfaa.Record Go.Proofs.Ytfomhdhiibcdfaa.Script Go.Proofs.Ytfomhdhiibcdfaa.Tree Go.Proofs.Ytfomhdhiibcdfaa.Shelf Go.Proofs.Ytfomhdhiibcdfaa.Space Go.Proofs.Ytfomhdhiibcdfaa.Spot
set_option linter.unusedVariables false
set_option linter.unusedSimpArgs false

theorem lit_boxes (w : World) (bs : List Bx) (t : TypeId) (hl : bs.length ≤ 1000) : Boxes (w.alloc (.cells (bs.flatMap cellsOfB).toArray t)) (w.alloc (.cells (bs.flatMap cellsOfB).toArray t)).heap.size (some ⟨w.heap.size, 0, none⟩) bs := by
  have hm : MineB t (w.alloc (.cells (bs.flatMap cellsOfB).toArray t)) 0 (some ⟨w.heap.size, 0, none⟩) bs.length bs.length bs := by
    have := World.ownsRow_lit (e := t) (size := 14) (base := 0) w (bs.flatMap cellsOfB).toArray bs.length (Nat.zero_le _) (by unfold maxLen; omega) (by simp only [List.size_toArray]; exact flat_len bs)
    simpa [MineB] using this
  exact hm.boxes

theorem wood_of {bs : List Bx} (h : Fine bs bs.length) (hl : bs.length ≤ 100) : Wood bs := by
  have key : ∀ i, i < bs.length → in50 (bs.getD i noB).m0 = true ∧ in50 (bs.getD i noB).m2 = true ∧ (1 ≤ (bs.getD i noB).k ∧ (bs.getD i noB).k ≤ 5) ∧ (0 ≤ (bs.getD i noB).c ∧ (bs.getD i noB).c ≤ 3) := fun i hi => by
    have hg := (good_iff _).1 (h.check hi)
    have h2 := hg.m
    simp only [List.any_cons, List.any_nil, Bool.or_false, Bool.or_eq_false_iff] at h2
    unfold bigB at h2
    have a0 := bey_no.1 h2.1
    have a2 := bey_no.1 h2.2.2.1
    have hk := hg.k
    have hc := hg.c
    exact ⟨in50_iff.2 (by omega), in50_iff.2 (by omega), hk, hc⟩
  exact ⟨hl, fun i hi => ⟨(key i hi).1, (key i hi).2.1⟩, fun i hi => (key i hi).2.2.1, fun i hi => (key i hi).2.2.2, fun k hk => h.depth hk, fun i hi => by
    have hg := ((good_iff _).1 (h.check hi)).z
    unfold sizeB at hg
    simp only [Bool.or_eq_false_iff, decide_eq_false_iff_not] at hg
    omega, fun i hi hk => by
    have hg := ((good_iff _).1 (h.check hi)).s
    unfold sideB at hg
    rw [if_pos hk] at hg
    simpa using hg, fun h0 => h.shape h0⟩

def exH : List Bx := [⟨0, 3, 0, 0, 0, 0, 0, 0, 0, 0, 0, 0, 0, 0⟩, ⟨1, 1, 0, 0, 0, -1, 3, 0, 0, 0, 0, 0, 0, 0⟩, ⟨2, 1, 0, 0, 0, -1, 5, 0, 0, 0, 0, 0, 0, 0⟩, ⟨3, 4, 0, 0, 0, -1, 0, 0, 0, 0, 0, 0, 0, 0⟩, ⟨4, 5, 0, 0, 0, 0, 0, 0, 0, 0, 0, 0, 0, 0⟩]
theorem exH_fine : Fine exH 5 := fun j hj => by
  have h5 : j = 0 ∨ j = 1 ∨ j = 2 ∨ j = 3 ∨ j = 4 := by omega
  rcases h5 with rfl | rfl | rfl | rfl | rfl <;> decide
theorem exH_ok : ∀ b ∈ exH, OkB b := by
  intro b hb x hx
  simp only [exH, List.mem_cons, List.not_mem_nil, or_false] at hb
  rcases hb with rfl | rfl | rfl | rfl | rfl <;> (simp only [List.mem_cons, List.not_mem_nil, or_false] at hx; rcases hx with rfl | rfl | rfl | rfl | rfl | rfl | rfl | rfl | rfl | rfl | rfl | rfl | rfl | rfl <;> decide)
theorem exH_into : intoT exH [] 1 zeroRl = ⟨⟨0, [3, 5, 0], false, false⟩, false, false, true⟩ := by kernel_rfl

section
variable {T : World → Addr → List Bx → Prop} {S : World → (Nat → Prop) → Addr → List Fl → Prop}

set_option maxRecDepth 100000 in
set_option maxHeartbeats 1600000 in
theorem hspeaks (hT : TreeOk T) (hS : SpaceOk S) (hA : AheadOk T S) (w : World) : Calls Try.prog 6 #[] w fun e w' => e = .returned (.bool true) ∧ Below w.heap.size w w' := by
  have HB := Lib.hid (hT.yes (some ⟨w.heap.size, 0, none⟩) 5 5 exH _ rfl (by omega) (by omega) (lit_boxes w exH 61 (by decide)) exH_ok exH_fine)
  have hkb := ba1 w (.cells (exH.flatMap cellsOfB).toArray 61)
  have KA := Lib.hid hkb
  have HW := Lib.hid (wood_of exH_fine (by decide))
  have HI := Lib.hid (fun w1 p F sp (ht : T w1 p exH) (hs : S w1 F sp []) => by
    have q := hA.into w1 p F sp exH [] 1 zeroRl 0 ht hs HW.out rfl ⟨by show _ ≤ (0 : Int) ∧ (0 : Int) ≤ _; simp, rfl, Nat.le_refl _⟩ (by decide)
    rw [exH_into] at q
    exact q)
  have HG := Lib.hid (fun w1 => gat_is (x := ⟨0, 5, 0, false, false⟩) (a := 5) (by unfold FineS; simp) (by simp [atS]) w1)
  clear hkb
  go_enter Try.func6, Try.ntmps6
  go_upto_region 2 with (first
    | (go_at_call 16; refine HB.out.mono ?_; rintro e w1 ⟨⟨p, rfl, ht⟩, k1⟩; have K1 := Lib.hid (⟨ht, thru KA.out k1⟩ : T w1 p exH ∧ Below w.heap.size w w1); clear ht k1))
  clear KA HB
  go_upto_region 5 with (first
    | (go_at_call 17; refine (hS.new w1).mono ?_; rintro e w2 ⟨⟨sp, F, rfl, hs, hF⟩, k2⟩; have K2 := Lib.hid (⟨hT.keep _ _ _ _ K1.out.1 k2, hs, thru K1.out.2 k2⟩ : T w2 p exH ∧ S w2 F sp [] ∧ Below w.heap.size w w2); clear hs hF k2))
  go_upto_region 6 with (first
    | (go_at_call 12; refine (HI.out w2 p F sp K2.out.1 K2.out.2.1).mono ?_; rintro e w3 ⟨rfl, k3⟩; have K3 := Lib.hid (thru K2.out.2.2 k3); clear k3))
  have hpv : Rl.pv ⟨⟨0, [3, 5, 0], false, false⟩, false, false, true⟩ = lpv ⟨0, 5, 0, false, false⟩ 0 true := by rfl
  generalize hW : World.alloc w3 _ = W
  obtain ⟨b5, hb5⟩ : ∃ b, w3.heap.size = b := ⟨_, rfl⟩
  have z5 : Lies W b5 (lprow ⟨0, 5, 0, false, false⟩ 0 true) := by rw [← hW, ← hb5]; exact Lies.new w3 _ _
  have k4 : Below w3.heap.size w3 W := by rw [← hW]; exact ba1 _ _
  try rw [hb5]
  have K4 := Lib.hid (thru K3.out k4)
  clear hW hb5 k4 hpv K2 K1
  obtain ⟨c0, c1, c2, c3, c4, c5, c6⟩ := lpat_of z5
  clear z5
  go_wp2_with (first
    | (go_at_call 18; refine (HG.out W).mono ?_; rintro e w5 ⟨rfl, k5⟩; have K5 := Lib.hid (thru K4.out k5); clear k5))
  go_ret
  exact ⟨rfl, K5.out⟩

end

end Go.Proofs.Ytfomhdhiibcdfaa.Ahead

/-! The program's nodes as they lie in memory; the contracts of at, Len, Box, Parent, End and Context. -/
namespace Go.Proofs.Ytfomhdhiibcdfaa.Tree
open Go.RowKit Go.Sort Go.Proofs.Ytfomhdhiibcdfaa.Record Go.Proofs.Ytfomhdhiibcdfaa.Script Go.Proofs.Ytfomhdhiibcdfaa.More

/-- A node: its box, its parent, where it ends, and its context. -/
structure Nd where
  b : Bx
  p : Int
  e : Int
  c : Int

abbrev Nd.v (x : Nd) : Value :=
  .agg #[.int .i64 x.b.d, .int .i64 x.b.k, .int .i64 x.b.s, .int .i64 x.b.c, .int .i64 x.b.w, .int .i64 x.b.h, .int .i64 x.b.m0, .int .i64 x.b.m1, .int .i64 x.b.m2, .int .i64 x.b.m3, .int .i64 x.b.e0, .int .i64 x.b.e1, .int .i64 x.b.e2, .int .i64 x.b.e3, .int .i64 x.p, .int .i64 x.e, .int .i64 x.c]

def cellsOfN (x : Nd) : List Value :=
  [.int .i64 x.b.d, .int .i64 x.b.k, .int .i64 x.b.s, .int .i64 x.b.c, .int .i64 x.b.w, .int .i64 x.b.h, .int .i64 x.b.m0, .int .i64 x.b.m1, .int .i64 x.b.m2, .int .i64 x.b.m3, .int .i64 x.b.e0, .int .i64 x.b.e1, .int .i64 x.b.e2, .int .i64 x.b.e3, .int .i64 x.p, .int .i64 x.e, .int .i64 x.c]

theorem cellsOfN_one (x : Nd) : ∀ u ∈ cellsOfN x, u.oneCell' = true := by
  intro u h
  simp only [cellsOfN, List.mem_cons, List.not_mem_nil, or_false] at h
  rcases h with h | h | h | h | h | h | h | h | h | h | h | h | h | h | h | h | h <;> (subst h; rfl)

def encN : Enc Nd := ⟨17, cellsOfN, fun _ => rfl, cellsOfN_one, by omega⟩

theorem infoN : InfoE encN 108 81 136 :=
  ⟨Try.underlying81, .agg #[.int .i64 0, .int .i64 0, .int .i64 0, .int .i64 0, .int .i64 0, .int .i64 0, .int .i64 0, .int .i64 0, .int .i64 0, .int .i64 0, .int .i64 0, .int .i64 0, .int .i64 0, .int .i64 0, .int .i64 0, .int .i64 0, .int .i64 0], rfl, by kernel_rfl⟩

abbrev MineN (w : World) (B : Nat) (A : Option Addr) (n c : Nat) (xs : List Nd) : Prop := MineE encN 108 w B A n c xs

/-- A node that lies at an address. -/
def AtN (w : World) (p : Addr) (x : Nd) : Prop :=
  AtP w p x.b ∧ w.cell? ⟨p.block, p.off + 14, none⟩ = some (.int .i64 x.p) ∧ w.cell? ⟨p.block, p.off + 15, none⟩ = some (.int .i64 x.e) ∧ w.cell? ⟨p.block, p.off + 16, none⟩ = some (.int .i64 x.c)

theorem AtN.of_mine {w : World} {B g n c : Nat} {xs : List Nd} (h : MineN w B (some ⟨g, 0, none⟩) n c xs) (k : Nat) (x : Nd) (hx : xs[k]? = some x) : AtN w ⟨g, k * 17, none⟩ x := by
  have e : ∀ j u, (cellsOfN x)[j]? = some u → w.cell? ⟨g, k * 17 + j, none⟩ = some u := fun j u hu => by
    have hj : j < 17 := (List.getElem?_eq_some_iff.1 hu).1
    exact (h.at k x hx j hj).trans hu
  have e0 := e 0 _ rfl
  exact ⟨⟨e0, e 1 _ rfl, e 2 _ rfl, e 3 _ rfl, e 4 _ rfl, e 5 _ rfl, e 6 _ rfl, e 7 _ rfl, e 8 _ rfl, e 9 _ rfl, e 10 _ rfl, e 11 _ rfl, e 12 _ rfl, e 13 _ rfl⟩, e 14 _ rfl, e 15 _ rfl, e 16 _ rfl⟩

theorem add_g0 (g k : Nat) : (⟨g, 0, none⟩ : Addr).add k = ⟨g, k, none⟩ := by
  rw [add_flat]; simp

def noN : Nd := ⟨noB, -1, -1, -1⟩

/-- The node of a place. -/
def nodeAt (ns : List Nd) (i : Int) : Nd := if 0 ≤ i ∧ i < ns.length then ns.getD i.toNat noN else noN

/-- The nodes of a tree lie in a slice, of which a box of one cell tells. -/
structure InT (w : World) (B g : Nat) (A : Option Addr) (c : Nat) (ns : List Nd) : Prop where
  box : Boxed w g 83 (.slice A ns.length c)
  mine : MineN w B A ns.length c ns

theorem InT.below {w w' : World} {B g : Nat} {A : Option Addr} {c : Nat} {ns : List Nd} (h : InT w B g A c ns) (k : Below w.heap.size w w') : InT w' B g A c ns :=
  ⟨h.box.kept (grown_of_below k) (by simp), h.mine.below k⟩

theorem InT.alloc {w : World} {B g : Nat} {A : Option Addr} {c : Nat} {ns : List Nd} (h : InT w B g A c ns) (o : Obj) : InT (w.alloc o) B g A c ns := ⟨h.box.alloc o, h.mine.alloc o⟩

theorem InT.at {w : World} {B g : Nat} {A : Option Addr} {c : Nat} {ns : List Nd} (h : InT w B g A c ns) (k : Nat) (hk : k < ns.length) : ∃ a, A = some ⟨a, 0, none⟩ ∧ a < w.heap.size ∧ ns.length ≤ c ∧ AtN w ⟨a, k * 17, none⟩ (ns.getD k noN) := by
  obtain ⟨a, rfl, _, ha, hc, _⟩ := h.mine.form (by omega)
  exact ⟨a, rfl, ha, hc, AtN.of_mine h.mine k _ (by simp [List.getD, hk])⟩

theorem AtN.range {w : World} {a o : Nat} {x : Nd} (h : AtN w ⟨a, o, none⟩ x) : w.rangeAt a o (cellsOfN x) := by
  obtain ⟨⟨c0, c1, c2, c3, c4, c5, c6, c7, c8, c9, c10, c11, c12, c13⟩, c14, c15, c16⟩ := h
  intro j v hj
  have hlt : j < 17 := (List.getElem?_eq_some_iff.1 hj).1
  obtain rfl | rfl | rfl | rfl | rfl | rfl | rfl | rfl | rfl | rfl | rfl | rfl | rfl | rfl | rfl | rfl | rfl : j = 0 ∨ j = 1 ∨ j = 2 ∨ j = 3 ∨ j = 4 ∨ j = 5 ∨ j = 6 ∨ j = 7 ∨ j = 8 ∨ j = 9 ∨ j = 10 ∨ j = 11 ∨ j = 12 ∨ j = 13 ∨ j = 14 ∨ j = 15 ∨ j = 16 := by omega
  all_goals (injection hj with hj; subst hj; assumption)

theorem AtN.below {w w' : World} {B : Nat} {p : Addr} {x : Nd} (h : AtN w p x) (hp : p.block < B) (k : Below B w w') : AtN w' p x := by
  have e : ∀ o, w'.cell? ⟨p.block, o, none⟩ = w.cell? ⟨p.block, o, none⟩ := fun o => k.cell (p := ⟨p.block, o, none⟩) hp
  obtain ⟨h0, h1, h2, h3⟩ := h
  exact ⟨h0.below hp k, (e _).trans h1, (e _).trans h2, (e _).trans h3⟩

def zeroN : Array Value := #[.int .i64 0, .int .i64 0, .int .i64 0, .int .i64 0, .int .i64 0, .int .i64 0, .int .i64 0, .int .i64 0, .int .i64 0, .int .i64 0, .int .i64 0, .int .i64 0, .int .i64 0, .int .i64 0, .int .i64 0, .int .i64 0, .int .i64 0]

theorem sizeN : (Try.prog.info? 108).map (·.size) = some 17 := by kernel_rfl

set_option maxRecDepth 100000 in
set_option maxHeartbeats 1000000 in
theorem at_in (w : World) (B g : Nat) (A : Option Addr) (c : Nat) (ns : List Nd) (k : Nat) (hk : k < ns.length) (hT : InT w B g A c ns) :
    Calls Try.prog 53 #[.pointer (some ⟨g, 0, none⟩), .int .i64 (k : Int)] w fun e w' => e = .returned (ns.getD k noN).v ∧ Below w.heap.size w w' := by
  have hc := hT.box.cell
  have hlt := hT.box.lt
  obtain ⟨a, rfl, ha, hcap, hx⟩ := hT.at k hk
  generalize ns.getD k noN = x at hx
  have hg1 : ¬ (k : Int) < 0 := by omega
  have hg2 : ¬ (ns.length : Int) ≤ (k : Int) := by omega
  generalize ns.length = n at *
  clear hT
  go_enter Try.func53, Try.ntmps53
  go_upto_region 1 with fail
  generalize hW : w.alloc _ = W
  have hb : Below w.heap.size w W := by subst hW; exact ba1 _ _
  have hz : W.heap[w.heap.size]? = some (.cells zeroN 108) := by subst hW; exact heap_alloc_new _ _
  have hc1 : W.cell? ⟨g, 0, none⟩ = some (.slice (some ⟨a, 0, none⟩) n c) := (hb.cell (p := ⟨g, 0, none⟩) hlt).trans hc
  have hR := (hx.below ha hb).range
  clear hc hlt hx hW
  go_wp2_with (first
    | (refine wpList_load_mid rfl 108 (.tmp 22) rfl a (k * 17) rfl (cellsOfN x) _ hR Try.underlying108 rfl sizeN ?_)
    | (refine wpList_store_row rfl 108 (.tmp 4) (.tmp 23) rfl w.heap.size (cellsOfN x).toArray rfl rfl 108 zeroN hz sizeN rfl (all_oneCell_toArray (cellsOfN_one x)) ?_))
  have hz2 := setRow_heap W w.heap.size zeroN (cellsOfN x).toArray _ _ hz
  exact bodyPost_ret (v := x.v) (results_cell_row (p := 4) (ty := 108) rfl _ _ w.heap.size _ (cellsOfN x).toArray _ _ rfl hz2 Try.underlying108 rfl sizeN) rfl ⟨rfl, below_setRow hb (Nat.le_refl _) _⟩

set_option maxRecDepth 100000 in
set_option maxHeartbeats 1000000 in
theorem at_out (w : World) (B g : Nat) (A : Option Addr) (c : Nat) (ns : List Nd) (i : Int) (hi : ¬ (0 ≤ i ∧ i < ns.length)) (hT : InT w B g A c ns) :
    Calls Try.prog 53 #[.pointer (some ⟨g, 0, none⟩), .int .i64 i] w fun e w' => e = .returned noN.v ∧ Below w.heap.size w w' := by
  have hc := hT.box.cell
  have hlt := hT.box.lt
  generalize ns.length = n at *
  clear hT
  go_enter Try.func53, Try.ntmps53
  go_upto_region 1 with fail
  generalize hW : w.alloc _ = W
  have hb : Below w.heap.size w W := by subst hW; exact ba1 _ _
  have hz : W.heap[w.heap.size]? = some (.cells zeroN 108) := by subst hW; exact heap_alloc_new _ _
  have hc1 : W.cell? ⟨g, 0, none⟩ = some (.slice A n c) := (hb.cell (p := ⟨g, 0, none⟩) hlt).trans hc
  clear hc hlt hW
  by_cases h : i < 0
  · go_wp2_with (first | (refine wpList_store_row rfl 108 (.tmp 4) (.tmp 16) rfl w.heap.size (cellsOfN noN).toArray rfl rfl 108 zeroN hz sizeN rfl (all_oneCell_toArray (cellsOfN_one noN)) ?_))
    have hz2 := setRow_heap W w.heap.size zeroN (cellsOfN noN).toArray _ _ hz
    exact bodyPost_ret (v := noN.v) (results_cell_row (p := 4) (ty := 108) rfl _ _ w.heap.size _ (cellsOfN noN).toArray _ _ rfl hz2 Try.underlying108 rfl sizeN) rfl ⟨rfl, below_setRow hb (Nat.le_refl _) _⟩
  · have h2 : (n : Int) ≤ i := by omega
    go_wp2_with (first | (refine wpList_store_row rfl 108 (.tmp 4) (.tmp 16) rfl w.heap.size (cellsOfN noN).toArray rfl rfl 108 zeroN hz sizeN rfl (all_oneCell_toArray (cellsOfN_one noN)) ?_))
    have hz2 := setRow_heap W w.heap.size zeroN (cellsOfN noN).toArray _ _ hz
    exact bodyPost_ret (v := noN.v) (results_cell_row (p := 4) (ty := 108) rfl _ _ w.heap.size _ (cellsOfN noN).toArray _ _ rfl hz2 Try.underlying108 rfl sizeN) rfl ⟨rfl, below_setRow hb (Nat.le_refl _) _⟩

theorem at_any (w : World) (B g : Nat) (A : Option Addr) (c : Nat) (ns : List Nd) (i : Int) (hT : InT w B g A c ns) :
    Calls Try.prog 53 #[.pointer (some ⟨g, 0, none⟩), .int .i64 i] w fun e w' => e = .returned (nodeAt ns i).v ∧ Below w.heap.size w w' := by
  unfold nodeAt
  by_cases h : 0 ≤ i ∧ i < ns.length
  · rw [if_pos h]
    obtain ⟨k, rfl⟩ : ∃ k : Nat, i = k := ⟨i.toNat, by omega⟩
    exact at_in w B g A c ns k (by omega) hT
  · rw [if_neg h]
    exact at_out w B g A c ns i h hT

theorem fieldN0 (x : Nd) (w : World) : (Instr.field 108 x.v 0).run Try.prog w = .ok x.b.v w := by kernel_rfl
theorem fieldN1 (x : Nd) (w : World) : (Instr.field 108 x.v 1).run Try.prog w = .ok (.int .i64 x.p) w := by kernel_rfl
theorem fieldN2 (x : Nd) (w : World) : (Instr.field 108 x.v 2).run Try.prog w = .ok (.int .i64 x.e) w := by kernel_rfl
theorem fieldN3 (x : Nd) (w : World) : (Instr.field 108 x.v 3).run Try.prog w = .ok (.int .i64 x.c) w := by kernel_rfl

def zeroB : Array Value := #[.int .i64 0, .int .i64 0, .int .i64 0, .int .i64 0, .int .i64 0, .int .i64 0, .int .i64 0, .int .i64 0, .int .i64 0, .int .i64 0, .int .i64 0, .int .i64 0, .int .i64 0, .int .i64 0]

theorem sizeB : (Try.prog.info? 61).map (·.size) = some 14 := by kernel_rfl

theorem cellsOfB_one (x : Bx) : ∀ u ∈ cellsOfB x, u.oneCell' = true := by
  intro u h
  simp only [cellsOfB, List.mem_cons, List.not_mem_nil, or_false] at h
  rcases h with h | h | h | h | h | h | h | h | h | h | h | h | h | h <;> (subst h; rfl)

set_option maxHeartbeats 1000000 in
theorem tbox_any (w : World) (B g : Nat) (A : Option Addr) (c : Nat) (ns : List Nd) (i : Int) (hT : InT w B g A c ns) :
    Calls Try.prog 40 #[.pointer (some ⟨g, 0, none⟩), .int .i64 i] w fun e w' => e = .returned (nodeAt ns i).b.v ∧ Below w.heap.size w w' := by
  obtain ⟨x, hx⟩ : ∃ x, nodeAt ns i = x := ⟨_, rfl⟩
  rw [hx]
  go_enter Try.func40, Try.ntmps40
  go_upto_region 1 with fail
  generalize hW : w.alloc _ = W
  have hb : Below w.heap.size w W := by subst hW; exact ba1 _ _
  have hz : W.heap[w.heap.size]? = some (.cells zeroB 61) := by subst hW; exact heap_alloc_new _ _
  have hA := at_any _ B g A c ns i (hT.below hb)
  rw [hx] at hA
  have hf := fieldN0 x
  clear hW hT hx
  have hlt : w.heap.size < W.heap.size := (Array.getElem?_eq_some_iff.1 hz).1
  go_wp2_with (first
    | (go_at_call 53; refine hA.mono ?_; rintro e w1 ⟨rfl, k1⟩; have hz1 := (k1.block _ hlt).trans hz)
    | (refine wpList_store_row rfl 61 (.tmp 4) (.tmp 8) rfl w.heap.size (cellsOfB x.b).toArray rfl rfl 61 zeroB hz1 sizeB rfl (all_oneCell_toArray (cellsOfB_one x.b)) ?_))
  have hz2 := setRow_heap w1 w.heap.size zeroB (cellsOfB x.b).toArray _ _ hz1
  exact bodyPost_ret (v := x.b.v) (results_cell_row (p := 4) (ty := 61) rfl _ _ w.heap.size _ (cellsOfB x.b).toArray _ _ rfl hz2 Try.underlying61 rfl sizeB) rfl ⟨rfl, below_setRow (thru hb k1) (Nat.le_refl _) _⟩

set_option maxHeartbeats 1000000 in
theorem tend_any (w : World) (B g : Nat) (A : Option Addr) (c : Nat) (ns : List Nd) (i : Int) (hT : InT w B g A c ns) :
    Calls Try.prog 54 #[.pointer (some ⟨g, 0, none⟩), .int .i64 i] w fun e w' => e = .returned (.int .i64 (nodeAt ns i).e) ∧ Below w.heap.size w w' := by
  have hA := at_any _ B g A c ns i hT
  have hf := fieldN2 (nodeAt ns i)
  generalize nodeAt ns i = x at *
  clear hT
  go_enter Try.func54, Try.ntmps54
  go_wp2_with (first
    | (go_at_call 53; refine hA.mono ?_; rintro e w1 ⟨rfl, k1⟩))
  go_ret
  exact ⟨rfl, k1⟩

end Go.Proofs.Ytfomhdhiibcdfaa.Tree
