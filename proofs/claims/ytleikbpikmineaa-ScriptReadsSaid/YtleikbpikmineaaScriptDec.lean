/- The contract of the document's Decode. -/
import Derived.Test.YtleikbpikmineaaScriptEnc
import Derived.Test.YtleikbpikmineaaTold
namespace Go.Proofs.Ytleikbpikmineaa.Script
open Go.RowKit Go.Sort Go.Proofs.Ytleikbpikmineaa.Record

/-- The box whose numbers begin at a place of a list. -/
def boxAt (xs : List Int) (i : Nat) : Bx :=
  ⟨xs.getD i 0, xs.getD (i + 1) 0, xs.getD (i + 2) 0, xs.getD (i + 3) 0, xs.getD (i + 4) 0, xs.getD (i + 5) 0, xs.getD (i + 6) 0, xs.getD (i + 7) 0, xs.getD (i + 8) 0, xs.getD (i + 9) 0, xs.getD (i + 10) 0, xs.getD (i + 11) 0, xs.getD (i + 12) 0, xs.getD (i + 13) 0⟩

/-- The boxes of a list of numbers. -/
def boxesOf (xs : List Int) (n : Nat) : List Bx := (List.range n).map fun k => boxAt xs (k * 14)

theorem boxesOf_next (xs : List Int) (n : Nat) : boxesOf xs (n + 1) = boxesOf xs n ++ [boxAt xs (n * 14)] := by
  simp [boxesOf, List.range_succ]

theorem nums_at {w : World} {B : Nat} {ad : Addr} {xs : List Int} (h : Nums w B (some ad) xs) (j : Nat) (hj : j < xs.length) : w.cell? (ad.add j) = some (.int .i64 (xs.getD j 0)) := by
  obtain ⟨a, e, _, hc⟩ := h j hj
  injection e with e
  subst e
  exact hc

/-- A box whose first n margins and edges are laid. -/
def part (b : Bx) (n : Nat) : Bx :=
  { b with m0 := if 0 < n then b.m0 else 0, m1 := if 1 < n then b.m1 else 0, m2 := if 2 < n then b.m2 else 0, m3 := if 3 < n then b.m3 else 0, e0 := if 0 < n then b.e0 else 0, e1 := if 1 < n then b.e1 else 0, e2 := if 2 < n then b.e2 else 0, e3 := if 3 < n then b.e3 else 0 }

theorem part_four (b : Bx) : part b 4 = b := rfl

theorem set14 {w : World} {g : Nat} {a0 a1 a2 a3 a4 a5 a6 a7 a8 a9 a10 a11 a12 a13 : Value} {T : TypeId} (h : w.heap[g]? = some (.cells #[a0, a1, a2, a3, a4, a5, a6, a7, a8, a9, a10, a11, a12, a13] T)) (b0 b1 b2 b3 b4 b5 b6 b7 b8 b9 b10 b11 b12 b13 : Value) :
    ((((((((((((((w.setCell ⟨g, 0, none⟩ b0).setCell ⟨g, 1, none⟩ b1).setCell ⟨g, 2, none⟩ b2).setCell ⟨g, 3, none⟩ b3).setCell ⟨g, 4, none⟩ b4).setCell ⟨g, 5, none⟩ b5).setCell ⟨g, 6, none⟩ b6).setCell ⟨g, 7, none⟩ b7).setCell ⟨g, 8, none⟩ b8).setCell ⟨g, 9, none⟩ b9).setCell ⟨g, 10, none⟩ b10).setCell ⟨g, 11, none⟩ b11).setCell ⟨g, 12, none⟩ b12).setCell ⟨g, 13, none⟩ b13).heap[g]? = some (.cells #[b0, b1, b2, b3, b4, b5, b6, b7, b8, b9, b10, b11, b12, b13] T) := by
  have hlt := lt_of_block h
  simp [World.setCell, Array.getElem?_modify, h]

theorem set14_below {W w : World} {g : Nat} (k : Below W.heap.size W w) (hg : W.heap.size ≤ g) (b0 b1 b2 b3 b4 b5 b6 b7 b8 b9 b10 b11 b12 b13 : Value) :
    Below W.heap.size W ((((((((((((((w.setCell ⟨g, 0, none⟩ b0).setCell ⟨g, 1, none⟩ b1).setCell ⟨g, 2, none⟩ b2).setCell ⟨g, 3, none⟩ b3).setCell ⟨g, 4, none⟩ b4).setCell ⟨g, 5, none⟩ b5).setCell ⟨g, 6, none⟩ b6).setCell ⟨g, 7, none⟩ b7).setCell ⟨g, 8, none⟩ b8).setCell ⟨g, 9, none⟩ b9).setCell ⟨g, 10, none⟩ b10).setCell ⟨g, 11, none⟩ b11).setCell ⟨g, 12, none⟩ b12).setCell ⟨g, 13, none⟩ b13) :=
  ((((((((((((((k.setCell hg _).setCell hg _).setCell hg _).setCell hg _).setCell hg _).setCell hg _).setCell hg _).setCell hg _).setCell hg _).setCell hg _).setCell hg _).setCell hg _).setCell hg _).setCell hg _)

/-- A block that holds a box. -/
def Held (w : World) (q : Nat) (b : Bx) : Prop :=
  w.heap[q]? = some (.cells #[.int .i64 b.d, .int .i64 b.k, .int .i64 b.s, .int .i64 b.c, .int .i64 b.w, .int .i64 b.h, .int .i64 b.m0, .int .i64 b.m1, .int .i64 b.m2, .int .i64 b.m3, .int .i64 b.e0, .int .i64 b.e1, .int .i64 b.e2, .int .i64 b.e3] 37)

theorem held_m0 {w : World} {q : Nat} {x : Bx} (h : Held w q x) (t : Int) : Held (w.setCell ⟨q, 6, none⟩ (.int .i64 t)) q { x with m0 := t } := by
  unfold Held at *
  have hlt := lt_of_block h
  simp [World.setCell, Array.getElem?_modify, h]

theorem held_m1 {w : World} {q : Nat} {x : Bx} (h : Held w q x) (t : Int) : Held (w.setCell ⟨q, 7, none⟩ (.int .i64 t)) q { x with m1 := t } := by
  unfold Held at *
  have hlt := lt_of_block h
  simp [World.setCell, Array.getElem?_modify, h]

theorem held_m2 {w : World} {q : Nat} {x : Bx} (h : Held w q x) (t : Int) : Held (w.setCell ⟨q, 8, none⟩ (.int .i64 t)) q { x with m2 := t } := by
  unfold Held at *
  have hlt := lt_of_block h
  simp [World.setCell, Array.getElem?_modify, h]

theorem held_m3 {w : World} {q : Nat} {x : Bx} (h : Held w q x) (t : Int) : Held (w.setCell ⟨q, 9, none⟩ (.int .i64 t)) q { x with m3 := t } := by
  unfold Held at *
  have hlt := lt_of_block h
  simp [World.setCell, Array.getElem?_modify, h]

theorem held_e0 {w : World} {q : Nat} {x : Bx} (h : Held w q x) (t : Int) : Held (w.setCell ⟨q, 10, none⟩ (.int .i64 t)) q { x with e0 := t } := by
  unfold Held at *
  have hlt := lt_of_block h
  simp [World.setCell, Array.getElem?_modify, h]

theorem held_e1 {w : World} {q : Nat} {x : Bx} (h : Held w q x) (t : Int) : Held (w.setCell ⟨q, 11, none⟩ (.int .i64 t)) q { x with e1 := t } := by
  unfold Held at *
  have hlt := lt_of_block h
  simp [World.setCell, Array.getElem?_modify, h]

theorem held_e2 {w : World} {q : Nat} {x : Bx} (h : Held w q x) (t : Int) : Held (w.setCell ⟨q, 12, none⟩ (.int .i64 t)) q { x with e2 := t } := by
  unfold Held at *
  have hlt := lt_of_block h
  simp [World.setCell, Array.getElem?_modify, h]

theorem held_e3 {w : World} {q : Nat} {x : Bx} (h : Held w q x) (t : Int) : Held (w.setCell ⟨q, 13, none⟩ (.int .i64 t)) q { x with e3 := t } := by
  unfold Held at *
  have hlt := lt_of_block h
  simp [World.setCell, Array.getElem?_modify, h]

theorem box_nums {xs : List Int} {j : Nat} {b : Bx} (h : boxAt xs j = b) : b.m0 = xs.getD (j + 6) 0 ∧ b.m1 = xs.getD (j + 7) 0 ∧ b.m2 = xs.getD (j + 8) 0 ∧ b.m3 = xs.getD (j + 9) 0 ∧ b.e0 = xs.getD (j + 10) 0 ∧ b.e1 = xs.getD (j + 11) 0 ∧ b.e2 = xs.getD (j + 12) 0 ∧ b.e3 = xs.getD (j + 13) 0 := by
  subst h; exact ⟨rfl, rfl, rfl, rfl, rfl, rfl, rfl, rfl⟩

set_option maxRecDepth 100000 in
set_option maxHeartbeats 2000000 in
theorem refdec_yes (A : Option Addr) (m c : Nat) (xs : List Int) (w : World) (hn : m * 14 = xs.length) (hlen : m ≤ 65536) (hx : Nums w w.heap.size A xs) :
    Calls Try.prog 15 #[.slice A (m * 14) c] w fun e w' => (∃ A' c', e = .returned (.tuple #[.slice A' m c', .int .i64 0]) ∧ MineB 37 w' w.heap.size A' m c' (boxesOf xs m)) ∧ Below w.heap.size w w' := by
  have HX := Lib.hid hx
  have HN := Lib.hid hn
  clear hx hn
  go_enter Try.func15, Try.ntmps15
  go_wp2_with fail
  go_loopw [4, 5] (fun s i wr => ∃ k j : Nat, ∃ A' : Option Addr, ∃ c' : Nat, k ≤ m ∧ i = .int .i64 (j : Int) ∧ s = .slice A' k c' ∧ j = k * 14 ∧ Hid (MineB 37 wr w.heap.size A' k c' (boxesOf xs k) ∧ Below w.heap.size w wr)) (fun _ i _ => m * 14 - (intOf i).toNat)
  case atStart => exact ⟨0, 0, _, _, Nat.zero_le _, rfl, rfl, rfl, Lib.hid ⟨emptyB_mine _ _ _ (Nat.le_refl _), ba1 _ _⟩⟩
  case round =>
    obtain ⟨k, j, A', c', hk, rfl, rfl, hj, H⟩ := hrel
    by_cases hlt : k < m
    · obtain ⟨ad, hA, hAb, -⟩ := HX.out j (by rw [← HN.out]; omega)
      subst hA
      have hj14 : j + 14 ≤ m * 14 := by omega
      have HA := Lib.hid (Nat.lt_of_lt_of_le hAb H.out.2.size)
      have HF : Hid (∀ e, e < 14 → wr.cell? (ad.add (j + e)) = some (.int .i64 (xs.getD (j + e) 0))) := Lib.hid fun e he => nums_at (HX.out.below H.out.2) (j + e) (by rw [← HN.out]; omega)
      have HJ := Lib.hid hj
      clear hj hAb
      obtain ⟨p0, hp0⟩ : ∃ p, ad.add j = p := ⟨_, rfl⟩
      obtain ⟨x0, hx0⟩ : ∃ x, xs.getD j 0 = x := ⟨_, rfl⟩
      have HF0 : Hid (p0.block < wr.heap.size ∧ wr.cell? p0 = some (.int .i64 x0)) := Lib.hid (by subst hp0 hx0; exact ⟨by rw [block_of_add]; exact HA.out, HF.out 0 (by omega)⟩)
      have HX0 := Lib.hid hx0
      clear hx0
      obtain ⟨p1, hp1⟩ : ∃ p, ad.add (j + 1) = p := ⟨_, rfl⟩
      obtain ⟨x1, hx1⟩ : ∃ x, xs.getD (j + 1) 0 = x := ⟨_, rfl⟩
      have HF1 : Hid (p1.block < wr.heap.size ∧ wr.cell? p1 = some (.int .i64 x1)) := Lib.hid (by subst hp1 hx1; exact ⟨by rw [block_of_add]; exact HA.out, HF.out 1 (by omega)⟩)
      have HX1 := Lib.hid hx1
      obtain ⟨n1, hn1⟩ : ∃ n : Int, (j : Int) + 1 = n := ⟨_, rfl⟩
      have hw1 : IntKind.i64.wrap ((j : Int) + 1) = n1 := by rw [IntWalk.i64_in _ (by omega)]; exact hn1
      have hl1 : 0 ≤ n1 := by omega
      have hu1 : n1 < (m : Int) * 14 := by omega
      have ht1 : ad.add n1.toNat = p1 := by rw [← hp1, ← hn1]; congr 1
      clear hx1 hp1 hn1
      obtain ⟨p2, hp2⟩ : ∃ p, ad.add (j + 2) = p := ⟨_, rfl⟩
      obtain ⟨x2, hx2⟩ : ∃ x, xs.getD (j + 2) 0 = x := ⟨_, rfl⟩
      have HF2 : Hid (p2.block < wr.heap.size ∧ wr.cell? p2 = some (.int .i64 x2)) := Lib.hid (by subst hp2 hx2; exact ⟨by rw [block_of_add]; exact HA.out, HF.out 2 (by omega)⟩)
      have HX2 := Lib.hid hx2
      obtain ⟨n2, hn2⟩ : ∃ n : Int, (j : Int) + 2 = n := ⟨_, rfl⟩
      have hw2 : IntKind.i64.wrap ((j : Int) + 2) = n2 := by rw [IntWalk.i64_in _ (by omega)]; exact hn2
      have hl2 : 0 ≤ n2 := by omega
      have hu2 : n2 < (m : Int) * 14 := by omega
      have ht2 : ad.add n2.toNat = p2 := by rw [← hp2, ← hn2]; congr 1
      clear hx2 hp2 hn2
      obtain ⟨p3, hp3⟩ : ∃ p, ad.add (j + 3) = p := ⟨_, rfl⟩
      obtain ⟨x3, hx3⟩ : ∃ x, xs.getD (j + 3) 0 = x := ⟨_, rfl⟩
      have HF3 : Hid (p3.block < wr.heap.size ∧ wr.cell? p3 = some (.int .i64 x3)) := Lib.hid (by subst hp3 hx3; exact ⟨by rw [block_of_add]; exact HA.out, HF.out 3 (by omega)⟩)
      have HX3 := Lib.hid hx3
      obtain ⟨n3, hn3⟩ : ∃ n : Int, (j : Int) + 3 = n := ⟨_, rfl⟩
      have hw3 : IntKind.i64.wrap ((j : Int) + 3) = n3 := by rw [IntWalk.i64_in _ (by omega)]; exact hn3
      have hl3 : 0 ≤ n3 := by omega
      have hu3 : n3 < (m : Int) * 14 := by omega
      have ht3 : ad.add n3.toNat = p3 := by rw [← hp3, ← hn3]; congr 1
      clear hx3 hp3 hn3
      obtain ⟨p4, hp4⟩ : ∃ p, ad.add (j + 4) = p := ⟨_, rfl⟩
      obtain ⟨x4, hx4⟩ : ∃ x, xs.getD (j + 4) 0 = x := ⟨_, rfl⟩
      have HF4 : Hid (p4.block < wr.heap.size ∧ wr.cell? p4 = some (.int .i64 x4)) := Lib.hid (by subst hp4 hx4; exact ⟨by rw [block_of_add]; exact HA.out, HF.out 4 (by omega)⟩)
      have HX4 := Lib.hid hx4
      obtain ⟨n4, hn4⟩ : ∃ n : Int, (j : Int) + 4 = n := ⟨_, rfl⟩
      have hw4 : IntKind.i64.wrap ((j : Int) + 4) = n4 := by rw [IntWalk.i64_in _ (by omega)]; exact hn4
      have hl4 : 0 ≤ n4 := by omega
      have hu4 : n4 < (m : Int) * 14 := by omega
      have ht4 : ad.add n4.toNat = p4 := by rw [← hp4, ← hn4]; congr 1
      clear hx4 hp4 hn4
      obtain ⟨p5, hp5⟩ : ∃ p, ad.add (j + 5) = p := ⟨_, rfl⟩
      obtain ⟨x5, hx5⟩ : ∃ x, xs.getD (j + 5) 0 = x := ⟨_, rfl⟩
      have HF5 : Hid (p5.block < wr.heap.size ∧ wr.cell? p5 = some (.int .i64 x5)) := Lib.hid (by subst hp5 hx5; exact ⟨by rw [block_of_add]; exact HA.out, HF.out 5 (by omega)⟩)
      have HX5 := Lib.hid hx5
      obtain ⟨n5, hn5⟩ : ∃ n : Int, (j : Int) + 5 = n := ⟨_, rfl⟩
      have hw5 : IntKind.i64.wrap ((j : Int) + 5) = n5 := by rw [IntWalk.i64_in _ (by omega)]; exact hn5
      have hl5 : 0 ≤ n5 := by omega
      have hu5 : n5 < (m : Int) * 14 := by omega
      have ht5 : ad.add n5.toNat = p5 := by rw [← hp5, ← hn5]; congr 1
      clear hx5 hp5 hn5
      obtain ⟨wo, hwo⟩ : ∃ x, x = wr := ⟨_, rfl⟩
      subst hwo
      go_upto_region 9 with fail
      refine Told.wp_region_told [.val (.slice (some ad) (m * 14) c), .val (.int .i64 (j : Int)), .val (.pointer (some p0)), .val (.int .i64 x0), .val (.slice (some ad) (m * 14) c), .val (.int .i64 (j : Int)), .val (.int .i64 n1), .val (.pointer (some p1)), .val (.int .i64 x1), .val (.slice (some ad) (m * 14) c), .val (.int .i64 (j : Int)), .val (.int .i64 n2), .val (.pointer (some p2)), .val (.int .i64 x2), .val (.slice (some ad) (m * 14) c), .val (.int .i64 (j : Int)), .val (.int .i64 n3), .val (.pointer (some p3)), .val (.int .i64 x3), .val (.slice (some ad) (m * 14) c), .val (.int .i64 (j : Int)), .val (.int .i64 n4), .val (.pointer (some p4)), .val (.int .i64 x4), .val (.slice (some ad) (m * 14) c), .val (.int .i64 (j : Int)), .val (.int .i64 n5), .val (.pointer (some p5)), .val (.int .i64 x5), .val (.agg #[.int .i64 x0, .int .i64 x1, .int .i64 x2, .int .i64 x3, .int .i64 x4, .int .i64 x5, .int .i64 0, .int .i64 0, .int .i64 0, .int .i64 0, .int .i64 0, .int .i64 0, .int .i64 0, .int .i64 0]), .box (.cells #[.int .i64 0, .int .i64 0, .int .i64 0, .int .i64 0, .int .i64 0, .int .i64 0, .int .i64 0, .int .i64 0, .int .i64 0, .int .i64 0, .int .i64 0, .int .i64 0, .int .i64 0, .int .i64 0] 37)] (by kernel_rfl) (by kernel_rfl) (by kernel_rfl) ?_ ?_
      · simp only [Told.fill, Told.Leave.value]
        refine ⟨?_, ?_, ?_, ?_, ?_, ?_, ?_, ?_, ?_, ?_, ?_, ?_, ?_, ?_, ?_, ?_, ?_, ?_, ?_, ?_, ?_, ?_, ?_, ?_, ?_, ?_, ?_, ?_, ?_, ?_, ?_, trivial⟩
        · intro g w' hw hk
          go_simp
          exact ⟨rfl, rfl⟩
        · intro g w' hw hk
          go_simp
          exact ⟨rfl, rfl⟩
        · intro g w' hw hk
          go_simp
          exact ⟨rfl, rfl⟩
        · intro g w' hw hk
          have hc : w'.cell? p0 = some (.int .i64 x0) := by rw [hw.cell HF0.out.1]; exact HF0.out.2
          go_simp
          exact ⟨rfl, rfl⟩
        · intro g w' hw hk
          go_simp
          exact ⟨rfl, rfl⟩
        · intro g w' hw hk
          go_simp
          exact ⟨rfl, rfl⟩
        · intro g w' hw hk
          go_simp
          exact ⟨rfl, rfl⟩
        · intro g w' hw hk
          go_simp
          exact ⟨rfl, rfl⟩
        · intro g w' hw hk
          have hc : w'.cell? p1 = some (.int .i64 x1) := by rw [hw.cell HF1.out.1]; exact HF1.out.2
          go_simp
          exact ⟨rfl, rfl⟩
        · intro g w' hw hk
          go_simp
          exact ⟨rfl, rfl⟩
        · intro g w' hw hk
          go_simp
          exact ⟨rfl, rfl⟩
        · intro g w' hw hk
          go_simp
          exact ⟨rfl, rfl⟩
        · intro g w' hw hk
          go_simp
          exact ⟨rfl, rfl⟩
        · intro g w' hw hk
          have hc : w'.cell? p2 = some (.int .i64 x2) := by rw [hw.cell HF2.out.1]; exact HF2.out.2
          go_simp
          exact ⟨rfl, rfl⟩
        · intro g w' hw hk
          go_simp
          exact ⟨rfl, rfl⟩
        · intro g w' hw hk
          go_simp
          exact ⟨rfl, rfl⟩
        · intro g w' hw hk
          go_simp
          exact ⟨rfl, rfl⟩
        · intro g w' hw hk
          go_simp
          exact ⟨rfl, rfl⟩
        · intro g w' hw hk
          have hc : w'.cell? p3 = some (.int .i64 x3) := by rw [hw.cell HF3.out.1]; exact HF3.out.2
          go_simp
          exact ⟨rfl, rfl⟩
        · intro g w' hw hk
          go_simp
          exact ⟨rfl, rfl⟩
        · intro g w' hw hk
          go_simp
          exact ⟨rfl, rfl⟩
        · intro g w' hw hk
          go_simp
          exact ⟨rfl, rfl⟩
        · intro g w' hw hk
          go_simp
          exact ⟨rfl, rfl⟩
        · intro g w' hw hk
          have hc : w'.cell? p4 = some (.int .i64 x4) := by rw [hw.cell HF4.out.1]; exact HF4.out.2
          go_simp
          exact ⟨rfl, rfl⟩
        · intro g w' hw hk
          go_simp
          exact ⟨rfl, rfl⟩
        · intro g w' hw hk
          go_simp
          exact ⟨rfl, rfl⟩
        · intro g w' hw hk
          go_simp
          exact ⟨rfl, rfl⟩
        · intro g w' hw hk
          go_simp
          exact ⟨rfl, rfl⟩
        · intro g w' hw hk
          have hc : w'.cell? p5 = some (.int .i64 x5) := by rw [hw.cell HF5.out.1]; exact HF5.out.2
          go_simp
          exact ⟨rfl, rfl⟩
        · intro g w' hw hk
          go_simp
          exact ⟨rfl, rfl⟩
        · intro g w' hw hk
          go_simp
      · intro g w4 k4 hbox hap
        obtain ⟨g4, h4⟩ := hbox 30 _ _ rfl rfl
        clear hbox hap
        simp only [Told.fill, Told.Leave.value, List.length_cons, List.length_nil, List.drop_succ_cons, List.drop_zero]
        generalize g 30 = q at g4 h4 ⊢
        obtain ⟨c0, c1, c2, c3, c4, c5, c6, c7, c8, c9, c10, c11, c12, c13⟩ := At.of_block (b := noB) h4
        simp only [noB] at c0 c1 c2 c3 c4 c5 c6 c7 c8 c9 c10 c11 c12 c13
        have fz := fun o => thawed_in h4 o
        go_upto_region 10 with fail
        clear c0 c1 c2 c3 c4 c5 c6 c7 c8 c9 c10 c11 c12 c13 fz hw1 hw2 hw3 hw4 hw5 hl1 hl2 hl3 hl4 hl5 hu1 hu2 hu3 hu4 hu5 ht1 ht2 ht3 ht4 ht5
        generalize hW5 : World.setCell _ _ _ = W5
        have h5 : Held W5 q (part (boxAt xs j) 0) := by
          rw [← hW5]
          have := set14 h4 (.int .i64 x0) (.int .i64 x1) (.int .i64 x2) (.int .i64 x3) (.int .i64 x4) (.int .i64 x5) (.int .i64 0) (.int .i64 0) (.int .i64 0) (.int .i64 0) (.int .i64 0) (.int .i64 0) (.int .i64 0) (.int .i64 0)
          rw [← HX0.out, ← HX1.out, ← HX2.out, ← HX3.out, ← HX4.out, ← HX5.out] at this ⊢
          exact this
        have k5 : Hid (Below wo.heap.size wo W5) := Lib.hid (by rw [← hW5]; exact set14_below k4 g4 _ _ _ _ _ _ _ _ _ _ _ _ _ _)
        have H5 := Lib.hid h5
        have G4 := Lib.hid g4
        clear hW5 h4 k4 h5 g4 HX0 HX1 HX2 HX3 HX4 HX5 HF0 HF1 HF2 HF3 HF4 HF5
        generalize hb : boxAt xs j = b at H5
        have HBX := Lib.hid hb
        clear hb
        have FM : Hid (∀ W, Below wo.heap.size wo W → ∀ e, 0 < e → e < 14 → W.cell? ⟨ad.block, ad.off + (j + e), none⟩ = some (.int .i64 (xs.getD (j + e) 0))) := Lib.hid fun W kW e h0 he => cell_at _ _ _ _ (by omega) (by rw [kW.cell (by rw [block_of_add]; exact HA.out)]; exact HF.out e he)
        go_wp2_with fail
        go_loopw [7] (fun i wz => ∃ n : Nat, n ≤ 4 ∧ i = .int .i64 (n : Int) ∧ Hid (Held wz q (part b n) ∧ Below wo.heap.size wo wz)) (fun i _ => 4 - (intOf i).toNat)
        case atStart => exact ⟨0, by omega, rfl, Lib.hid ⟨H5.out, k5.out⟩⟩
        case round =>
          obtain ⟨n, hn4, rfl, G⟩ := hrel
          clear H5 k5
          obtain ⟨b6, b7, b8, b9, b10, b11, b12, b13⟩ := box_nums HBX.out
          have B6 := Lib.hid b6
          have B7 := Lib.hid b7
          have B8 := Lib.hid b8
          have B9 := Lib.hid b9
          have B10 := Lib.hid b10
          have B11 := Lib.hid b11
          have B12 := Lib.hid b12
          have B13 := Lib.hid b13
          clear b6 b7 b8 b9 b10 b11 b12 b13
          obtain rfl | rfl | rfl | rfl | rfl : n = 0 ∨ n = 1 ∨ n = 2 ∨ n = 3 ∨ n = 4 := by omega
          · have f1 : wr.cell? ⟨ad.block, ad.off + (j + 6), none⟩ = some (.int .i64 b.m0) := by rw [B6.out]; exact FM.out _ G.out.2 6 (by omega) (by omega)
            obtain ⟨-, -, -, -, -, -, c6, c7, c8, c9, -⟩ := At.of_block G.out.1
            have fz := fun o => thawed_in G.out.1 o
            go_upto_region 14 with fail
            clear f1 c6 c7 c8 c9 fz
            generalize hW6 : World.setCell wr _ _ = W6
            have G6 : Hid (Held W6 q { part b 0 with m0 := b.m0 } ∧ Below wo.heap.size wo W6) := Lib.hid ⟨by rw [← hW6]; exact held_m0 G.out.1 _, by rw [← hW6]; exact G.out.2.setCell G4.out _⟩
            clear hW6 G
            have f2 : W6.cell? ⟨ad.block, ad.off + (j + 10), none⟩ = some (.int .i64 b.e0) := by rw [B10.out]; exact FM.out _ G6.out.2 10 (by omega) (by omega)
            obtain ⟨-, -, -, -, -, -, -, -, -, -, c6, c7, c8, c9⟩ := At.of_block G6.out.1
            have fz := fun o => thawed_in G6.out.1 o
            go_upto_region 12 with fail
            clear f2 c6 c7 c8 c9 fz
            generalize hW7 : World.setCell W6 _ _ = W7
            have G7 : Hid (Held W7 q (part b 1) ∧ Below wo.heap.size wo W7) := Lib.hid ⟨by rw [← hW7]; exact held_e0 G6.out.1 _, by rw [← hW7]; exact G6.out.2.setCell G4.out _⟩
            clear hW7 G6
            go_wp2_with fail
            go_roundw
            case rel => exact ⟨1, by omega, rfl, G7⟩
            case measure => simp [intOf]
          · have f1 : wr.cell? ⟨ad.block, ad.off + (j + 6 + 1), none⟩ = some (.int .i64 b.m1) := by rw [B7.out]; exact FM.out _ G.out.2 7 (by omega) (by omega)
            obtain ⟨-, -, -, -, -, -, c6, c7, c8, c9, -⟩ := At.of_block G.out.1
            have fz := fun o => thawed_in G.out.1 o
            go_upto_region 14 with fail
            clear f1 c6 c7 c8 c9 fz
            generalize hW6 : World.setCell wr _ _ = W6
            have G6 : Hid (Held W6 q { part b 1 with m1 := b.m1 } ∧ Below wo.heap.size wo W6) := Lib.hid ⟨by rw [← hW6]; exact held_m1 G.out.1 _, by rw [← hW6]; exact G.out.2.setCell G4.out _⟩
            clear hW6 G
            have f2 : W6.cell? ⟨ad.block, ad.off + (j + 10 + 1), none⟩ = some (.int .i64 b.e1) := by rw [B11.out]; exact FM.out _ G6.out.2 11 (by omega) (by omega)
            obtain ⟨-, -, -, -, -, -, -, -, -, -, c6, c7, c8, c9⟩ := At.of_block G6.out.1
            have fz := fun o => thawed_in G6.out.1 o
            go_upto_region 12 with fail
            clear f2 c6 c7 c8 c9 fz
            generalize hW7 : World.setCell W6 _ _ = W7
            have G7 : Hid (Held W7 q (part b 2) ∧ Below wo.heap.size wo W7) := Lib.hid ⟨by rw [← hW7]; exact held_e1 G6.out.1 _, by rw [← hW7]; exact G6.out.2.setCell G4.out _⟩
            clear hW7 G6
            go_wp2_with fail
            go_roundw
            case rel => exact ⟨2, by omega, rfl, G7⟩
            case measure => simp [intOf]
          · have f1 : wr.cell? ⟨ad.block, ad.off + (j + 6 + 2), none⟩ = some (.int .i64 b.m2) := by rw [B8.out]; exact FM.out _ G.out.2 8 (by omega) (by omega)
            obtain ⟨-, -, -, -, -, -, c6, c7, c8, c9, -⟩ := At.of_block G.out.1
            have fz := fun o => thawed_in G.out.1 o
            go_upto_region 14 with fail
            clear f1 c6 c7 c8 c9 fz
            generalize hW6 : World.setCell wr _ _ = W6
            have G6 : Hid (Held W6 q { part b 2 with m2 := b.m2 } ∧ Below wo.heap.size wo W6) := Lib.hid ⟨by rw [← hW6]; exact held_m2 G.out.1 _, by rw [← hW6]; exact G.out.2.setCell G4.out _⟩
            clear hW6 G
            have f2 : W6.cell? ⟨ad.block, ad.off + (j + 10 + 2), none⟩ = some (.int .i64 b.e2) := by rw [B12.out]; exact FM.out _ G6.out.2 12 (by omega) (by omega)
            obtain ⟨-, -, -, -, -, -, -, -, -, -, c6, c7, c8, c9⟩ := At.of_block G6.out.1
            have fz := fun o => thawed_in G6.out.1 o
            go_upto_region 12 with fail
            clear f2 c6 c7 c8 c9 fz
            generalize hW7 : World.setCell W6 _ _ = W7
            have G7 : Hid (Held W7 q (part b 3) ∧ Below wo.heap.size wo W7) := Lib.hid ⟨by rw [← hW7]; exact held_e2 G6.out.1 _, by rw [← hW7]; exact G6.out.2.setCell G4.out _⟩
            clear hW7 G6
            go_wp2_with fail
            go_roundw
            case rel => exact ⟨3, by omega, rfl, G7⟩
            case measure => simp [intOf]
          · have f1 : wr.cell? ⟨ad.block, ad.off + (j + 6 + 3), none⟩ = some (.int .i64 b.m3) := by rw [B9.out]; exact FM.out _ G.out.2 9 (by omega) (by omega)
            obtain ⟨-, -, -, -, -, -, c6, c7, c8, c9, -⟩ := At.of_block G.out.1
            have fz := fun o => thawed_in G.out.1 o
            go_upto_region 14 with fail
            clear f1 c6 c7 c8 c9 fz
            generalize hW6 : World.setCell wr _ _ = W6
            have G6 : Hid (Held W6 q { part b 3 with m3 := b.m3 } ∧ Below wo.heap.size wo W6) := Lib.hid ⟨by rw [← hW6]; exact held_m3 G.out.1 _, by rw [← hW6]; exact G.out.2.setCell G4.out _⟩
            clear hW6 G
            have f2 : W6.cell? ⟨ad.block, ad.off + (j + 10 + 3), none⟩ = some (.int .i64 b.e3) := by rw [B13.out]; exact FM.out _ G6.out.2 13 (by omega) (by omega)
            obtain ⟨-, -, -, -, -, -, -, -, -, -, c6, c7, c8, c9⟩ := At.of_block G6.out.1
            have fz := fun o => thawed_in G6.out.1 o
            go_upto_region 12 with fail
            clear f2 c6 c7 c8 c9 fz
            generalize hW7 : World.setCell W6 _ _ = W7
            have G7 : Hid (Held W7 q (part b 4) ∧ Below wo.heap.size wo W7) := Lib.hid ⟨by rw [← hW7]; exact held_e3 G6.out.1 _, by rw [← hW7]; exact G6.out.2.setCell G4.out _⟩
            clear hW7 G6
            go_wp2_with fail
            go_roundw
            case rel => exact ⟨4, by omega, rfl, G7⟩
            case measure => simp [intOf]
          · have hb4 : Held wr q b := G.out.1
            obtain ⟨c0, c1, c2, c3, c4, c5, c6, c7, c8, c9, c10, c11, c12, c13⟩ := At.of_block hb4
            have HM2 := Lib.hid (H.out.1.below G.out.2)
            have HB2 := Lib.hid (thru H.out.2 G.out.2)
            have HN2 := Lib.hid (boxesOf_next xs k)
            go_wp2_with (first
              | (at_builtin; refine wpList_append_boxes infoRef _ rfl (.tmp 76) (.tmp 78) rfl w.heap.size A' k c' (boxesOf xs k) rfl (HM2.out.alloc _) (some ⟨wr.heap.size, 0, none⟩) 1 1 [b] rfl (oneB_src wr b 37) (by omega) (by have := HB2.out.size; simp; omega) ?_; intro A1 c1' W2 h1))
            have hb3 := h1.below (HM2.out.alloc _) (HB2.out.alloc HB2.out.size _) (Nat.le_refl _) (by have := HB2.out.size; simp; omega)
            go_roundw
            case rel => exact ⟨k + 1, j + 14, A1, c1', by omega, by go_num, rfl, by have := HJ.out; omega, Lib.hid ⟨by rw [HN2.out, ← HJ.out, HBX.out]; exact h1.1, hb3⟩⟩
            case measure => simp [intOf]; omega
    · obtain rfl : k = m := by omega
      have HM := Lib.hid H.out.1
      go_wp2_with fail
      go_ret2
      exact ⟨⟨_, _, rfl, HM.out⟩, H.out.2⟩

end Go.Proofs.Ytleikbpikmineaa.Script
