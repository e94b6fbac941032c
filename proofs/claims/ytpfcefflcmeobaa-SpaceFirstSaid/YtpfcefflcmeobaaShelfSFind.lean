/- The program's list as it lies; sort.Search; below, of, After. -/
import Derived.Test.YtpfcefflcmeobaaShelfSCells
import Derived.Test.YtpfcefflcmeobaaShelfSOk
import Derived.Test.YtpfcefflcmeobaaShelfSAdd
import Derived.Shelf.Abstract
namespace Go.Proofs.Ytpfcefflcmeobaa.Shelf
open Go.RowKit Go.Sort Go.Proofs.Ytpfcefflcmeobaa.Rect Go.Proofs.Ytpfcefflcmeobaa.More
set_option linter.unusedVariables false

abbrev Sh := Int × (Int × Int)

/-- A list at block pb: its slice lies there, its shelves in a row of one's own, g. -/
structure Lst (w : World) (B pb g n c : Nat) (xs : List Sh) : Prop where
  hb : B ≤ pb
  cell : w.cell? ⟨pb, 0, none⟩ = some (.slice (some ⟨g, 0, none⟩) n c)
  frz : w.frozen? ⟨pb, 0, none⟩ = false
  ne : g ≠ pb
  row : MineE encSh 83 w B (some ⟨g, 0, none⟩) n c xs

section
variable {w w' : World} {B pb g n c : Nat} {xs : List Sh}

theorem Lst.lt (h : Lst w B pb g n c xs) : pb < w.heap.size := block_lt_of_cell h.cell
theorem Lst.len (h : Lst w B pb g n c xs) : xs.length = n := MineE.len h.row
theorem Lst.glt (h : Lst w B pb g n c xs) : B ≤ g ∧ g < w.heap.size := MineE.lt h.row g rfl
theorem Lst.cap (h : Lst w B pb g n c xs) : n ≤ c ∧ c ≤ 9223372036854775807 := by
  obtain ⟨cur, h1, h2, h3, h4, h5, h6⟩ := mine_block h.row
  exact ⟨h3, by unfold maxLen at h4; omega⟩
theorem Lst.below (h : Lst w B pb g n c xs) (k : Below w.heap.size w w') : Lst w' B pb g n c xs :=
  ⟨h.hb, (k.cell (p := ⟨pb, 0, none⟩) h.lt).trans h.cell, (k.frozen (p := ⟨pb, 0, none⟩) h.lt).trans h.frz, h.ne, MineE.below h.row k⟩
theorem Lst.at (h : Lst w B pb g n c xs) (k : Nat) (x : Sh) (hx : xs[k]? = some x) :
    w.cell? ⟨g, k * 3, none⟩ = some (.int .i64 x.1) ∧ w.cell? ⟨g, k * 3 + 1, none⟩ = some (.int .i64 x.2.1) ∧ w.cell? ⟨g, k * 3 + 2, none⟩ = some (.int .i64 x.2.2) :=
  ⟨MineE.at h.row k x hx 0 (by decide), MineE.at h.row k x hx 1 (by decide), MineE.at h.row k x hx 2 (by decide)⟩
/-- The row has been written to, the list's own block not. -/
theorem Lst.rowed {n' : Nat} {ys : List Sh} (h : Lst w B pb g n c xs) (k : w.grownBy w' (some g)) (m : MineE encSh 83 w' B (some ⟨g, 0, none⟩) n c ys) : Lst w' B pb g n c ys :=
  ⟨h.hb, k.cell h.cell (by simp; exact Ne.symm h.ne), (k.frozen_far ⟨pb, 0, none⟩ h.lt (by simp; exact Ne.symm h.ne)).trans h.frz, h.ne, m⟩

end

set_option maxHeartbeats 1000000 in
theorem closure_top (pl py pb g n c B i : Nat) (xs : List Sh) (x : Sh) (y : Int) (w : World) (hl : Lst w B pb g n c xs) (h1 : w.cell? ⟨pl, 0, none⟩ = some (.pointer (some ⟨pb, 0, none⟩))) (h2 : w.cell? ⟨py, 0, none⟩ = some (.int .i64 y)) (hx : xs[i]? = some x) :
    Calls Try.prog 54 (#[.int .i64 (i : Int)] ++ #[.pointer (some ⟨pl, 0, none⟩), .pointer (some ⟨py, 0, none⟩)]) w fun e w' => e = .returned (.bool (decide (y < x.1))) ∧ Below w.heap.size w w' := by
  have hi : i < xs.length := (List.getElem?_eq_some_iff.1 hx).1
  rw [hl.len] at hi
  have hi' : (i : Int) < (n : Int) := by omega
  have hp := hl.cell
  obtain ⟨c0, -, -⟩ := hl.at i x hx
  clear hl hx
  go_enter Try.func54, Try.ntmps54
  go_upto_region 1 with fail
  go_quiet (fail)
  have q : Below w.heap.size w (w.drewN nq) := ⟨rfl, rfl, rfl, Nat.le_refl _, fun _ _ => rfl⟩
  clear hp c0 h1 h2
  generalize w.drewN nq = w4 at q ⊢
  have HQ := Lib.hid q
  clear q
  go_wp2_with fail
  go_ret
  exact ⟨rfl, HQ.out⟩

set_option maxHeartbeats 2000000 in
/-- sort.Search, of a closure that only makes memory. -/
theorem search_any (f : Nat) (cb : Array Value) (n k : Nat) (w : World) (eg : ∀ args w, (callFunc f args).run Try.prog w = .ok (.enter f args) w) (hk : k ≤ n) (hn : n ≤ 1000000)
    (hf : ∀ (w1 : World) (i : Nat), Below w.heap.size w w1 → i < n → Calls Try.prog f (#[.int .i64 (i : Int)] ++ cb) w1 fun e w' => e = .returned (.bool (decide (k ≤ i))) ∧ Below w1.heap.size w1 w') :
    Calls Try.prog 53 #[.int .i64 (n : Int), .func (.func f) #[] cb] w fun e w' => e = .returned (.int .i64 (k : Int)) ∧ Below w.heap.size w w' := by
  have HF := Lib.hid hf
  clear hf
  go_enter Try.func53, Try.ntmps53
  go_wp2_with fail
  go_loopw [5, 6] (fun s5 s6 wr => ∃ lo hi : Nat, s5 = .int .i64 (lo : Int) ∧ s6 = .int .i64 (hi : Int) ∧ lo ≤ k ∧ k ≤ hi ∧ hi ≤ n ∧ Hid (Below w.heap.size w wr)) (fun s5 s6 _ => (intOf s6 - intOf s5).toNat)
  case atStart => exact ⟨0, n, rfl, rfl, Nat.zero_le _, hk, Nat.le_refl _, Lib.hid (Below.refl _ _)⟩
  case round =>
    obtain ⟨lo, hi, rfl, rfl, h1, h2, h3, H⟩ := hrel
    by_cases hlt : lo < hi
    · have hc := HF.out wr ((lo + hi) / 2) H.out (by omega)
      rw [show (((lo + hi) / 2 : Nat) : Int) = ((lo : Int) + (hi : Int)) / 2 by omega] at hc
      by_cases hp : k ≤ (lo + hi) / 2
      · rw [show decide (k ≤ (lo + hi) / 2) = true from by simp [hp]] at hc
        have HC := Lib.hid hc
        clear hc
        go_wp2_with (go_at_fn f; refine HC.out.mono ?_; rintro e w' ⟨rfl, kq⟩; have KQ := Lib.hid (thru H.out kq); clear kq)
        go_roundw
        case rel => exact ⟨lo, (lo + hi) / 2, rfl, by rw [show ((lo : Int) + (hi : Int)) / 2 = (((lo + hi) / 2 : Nat) : Int) by omega], h1, hp, by omega, KQ⟩
        case measure => simp [intOf]; omega
      · rw [show decide (k ≤ (lo + hi) / 2) = false from by simp [hp]] at hc
        have HC := Lib.hid hc
        clear hc
        go_wp2_with (go_at_fn f; refine HC.out.mono ?_; rintro e w' ⟨rfl, kq⟩; have KQ := Lib.hid (thru H.out kq); clear kq)
        go_roundw
        case rel => exact ⟨(lo + hi) / 2 + 1, hi, by rw [show ((lo : Int) + (hi : Int)) / 2 + 1 = (((lo + hi) / 2 + 1 : Nat) : Int) by omega], rfl, by omega, h2, h3, KQ⟩
        case measure => simp [intOf]; omega
    · obtain rfl : lo = k := by omega
      go_wp2_with fail
      go_ret
      exact ⟨rfl, H.out⟩

set_option maxHeartbeats 1000000 in
theorem below_any (pb g n c B k : Nat) (xs : List Sh) (y : Int) (w : World) (hl : Lst w B pb g n c xs) (hn : n ≤ 1000000) (ht : Thr xs y k) :
    Calls Try.prog 46 #[.pointer (some ⟨pb, 0, none⟩), .int .i64 y] w fun e w' => e = .returned (.int .i64 (k : Int)) ∧ Below w.heap.size w w' := by
  have hlen := hl.len
  have hpl := hl.lt
  have hk : k ≤ n := by have := ht.1; omega
  have HS := Lib.hid (fun (w1 : World) (k1 : Below w.heap.size w w1) (e1 : w1.cell? ⟨w.heap.size, 0, none⟩ = some (.pointer (some ⟨pb, 0, none⟩))) (e2 : w1.cell? ⟨w.heap.size + 1, 0, none⟩ = some (.int .i64 y)) =>
    search_any 54 #[.pointer (some ⟨w.heap.size, 0, none⟩), .pointer (some ⟨w.heap.size + 1, 0, none⟩)] n k w1 (enters_of Try.func54 (by kernel_rfl) rfl) hk hn (fun w2 i k2 hi => by
      obtain ⟨x, hx⟩ : ∃ x, xs[i]? = some x := ⟨_, List.getElem?_eq_getElem (by omega)⟩
      rw [← ht.2 i x hx]
      exact closure_top _ _ _ _ _ _ B i xs x y w2 (hl.below (thru k1 k2)) ((k2.cell (p := ⟨_, 0, none⟩) (block_lt_of_cell e1)).trans e1) ((k2.cell (p := ⟨_, 0, none⟩) (block_lt_of_cell e2)).trans e2) hx))
  have hp := hl.cell
  clear hl ht
  go_enter Try.func46, Try.ntmps46
  go_upto_region 1 with fail
  generalize hW : World.alloc (World.alloc w _) _ = W
  have hkW : Below w.heap.size w W := by rw [← hW]; exact ba2 _ _ _
  have e1 : W.cell? ⟨w.heap.size, 0, none⟩ = some (.pointer (some ⟨pb, 0, none⟩)) := by rw [← hW]; simp [go_sem]
  have e2 : W.cell? ⟨w.heap.size + 1, 0, none⟩ = some (.int .i64 y) := by rw [← hW]; simp [go_sem]
  have hp' := (hkW.cell (p := ⟨pb, 0, none⟩) hpl).trans hp
  clear hp
  have KW := Lib.hid hkW
  clear hW hkW
  go_wp2_with (first
    | (go_at_call 53; refine (HS.out _ KW.out e1 e2).mono ?_; rintro e w1 ⟨rfl, k1⟩; have K1 := Lib.hid (thru KW.out k1); clear k1))
  go_ret
  exact ⟨rfl, K1.out⟩

set_option maxHeartbeats 1000000 in
theorem of_zero (pb g n c B : Nat) (xs : List Sh) (y : Int) (w : World) (hl : Lst w B pb g n c xs) (hn : n ≤ 1000000) (ht : Thr xs y 0) :
    Calls Try.prog 45 #[.pointer (some ⟨pb, 0, none⟩), .int .i64 y] w fun e w' => e = .returned (.int .i64 0) ∧ Below w.heap.size w w' := by
  have HB := Lib.hid (below_any pb g n c B 0 xs y w hl hn ht)
  clear hl ht
  go_enter Try.func45, Try.ntmps45
  go_wp2_with (first
    | (go_at_call 46; refine HB.out.mono ?_; rintro e w1 ⟨rfl, k1⟩; have K1 := Lib.hid k1; clear k1))
  go_ret
  exact ⟨rfl, K1.out⟩

set_option maxHeartbeats 1000000 in
theorem of_next (pb g n c B k : Nat) (xs : List Sh) (y : Int) (w : World) (hl : Lst w B pb g n c xs) (hn : n ≤ 1000000) (ht : Thr xs y (k + 1)) :
    Calls Try.prog 45 #[.pointer (some ⟨pb, 0, none⟩), .int .i64 y] w fun e w' => e = .returned (.int .i64 (k : Int)) ∧ Below w.heap.size w w' := by
  have hB := below_any pb g n c B (k + 1) xs y w hl hn ht
  have hk : k + 1 ≤ n := by have := ht.1; have := hl.len; omega
  obtain ⟨q, hq⟩ : ∃ q : Int, ((k + 1 : Nat) : Int) = q := ⟨_, rfl⟩
  have hw : IntKind.i64.wrap (q - 1) = (k : Int) := by rw [IntWalk.i64_in _ (by omega)]; omega
  rw [hq] at hB
  have HB := Lib.hid hB
  have hk0 : ¬ (k : Int) < 0 := by omega
  have hk1 : (0 : Int) ≤ (k : Int) := by omega
  clear hl ht hB hq hk
  go_enter Try.func45, Try.ntmps45
  go_wp2_with (first
    | (go_at_call 46; refine HB.out.mono ?_; rintro e w1 ⟨rfl, k1⟩; have K1 := Lib.hid k1; clear k1))
  go_ret
  exact ⟨rfl, K1.out⟩

end Go.Proofs.Ytpfcefflcmeobaa.Shelf
