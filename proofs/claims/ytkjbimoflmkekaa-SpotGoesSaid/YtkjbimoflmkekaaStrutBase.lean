/- The contracts of strut's small functions, of the document's, and of the law's look at numbers. -/
import Derived.Test.YtkjbimoflmkekaaRows
import Derived.WalkKit
import Derived.WalkSpells
import Derived.WalkLawsBesides
import Derived.BigQuiet
import Derived.Lib.Hide
import Derived.Lib.QuietBelow
namespace Go.Proofs.Ytkjbimoflmkekaa.Strut
open Go.RowKit

theorem ba1 (w : World) (o : Obj) : Below w.heap.size w (w.alloc o) := (Below.refl _ _).alloc (Nat.le_refl _) o
theorem ba2 (w : World) (o p : Obj) : Below w.heap.size w ((w.alloc o).alloc p) := (ba1 w o).alloc (by simp) p
theorem ba3 (w : World) (o p q : Obj) : Below w.heap.size w (((w.alloc o).alloc p).alloc q) := (ba2 w o p).alloc (by simp; omega) q

theorem bcell {W w1 : World} (hb : Below W.heap.size W w1) : (∀ b o, b < W.heap.size → w1.cell? ⟨b, o, none⟩ = W.cell? ⟨b, o, none⟩) ∧ (∀ b o, b < W.heap.size → w1.frozen? ⟨b, o, none⟩ = W.frozen? ⟨b, o, none⟩) :=
  ⟨fun b o h => hb.cell (p := ⟨b, o, none⟩) h, fun b o h => hb.frozen (p := ⟨b, o, none⟩) h⟩

theorem thru {w W w1 : World} (h1 : Below w.heap.size w W) (h2 : Below W.heap.size W w1) : Below w.heap.size w w1 := h1.trans (h2.mono h1.size)

set_option maxHeartbeats 400000 in
theorem sum_any (m l : Int) (hm : -1152921504606846976 ≤ m ∧ m ≤ 1152921504606846976) (hl : -1152921504606846976 ≤ l ∧ l ≤ 1152921504606846976) (w : World) :
    Calls Try.prog 24 #[.agg #[.int .i64 m, .int .i64 l]] w fun e w' => e = .returned (.int .i64 (m + l)) ∧ Below w.heap.size w w' := by
  obtain ⟨hm, km⟩ := hm
  obtain ⟨hl, kl⟩ := hl
  go_enter Try.func24, Try.ntmps24
  go_wp2
  all_goals (go_ret; exact ⟨rfl, ba1 _ _⟩)

set_option maxHeartbeats 400000 in
theorem join_any (a b c d : Int) (w : World) :
    Calls Try.prog 28 #[.agg #[.int .i64 a, .int .i64 b], .agg #[.int .i64 c, .int .i64 d]] w fun e w' => e = .returned (.agg #[.int .i64 (max a c), .int .i64 (min b d)]) ∧ Below w.heap.size w w' := by
  go_enter Try.func28, Try.ntmps28
  go_wp2
  all_goals exact bodyPost_ret (v := .agg #[.int .i64 (max a c), .int .i64 (min b d)]) (by simp [results, Try.results28, go_sem]; try omega) rfl ⟨rfl, by first | exact ba1 _ _ | exact ba2 _ _ _ | exact ba3 _ _ _ _⟩

set_option maxHeartbeats 400000 in
theorem with_any (a b m : Int) (w : World) :
    Calls Try.prog 23 #[.agg #[.int .i64 a, .int .i64 b], .int .i64 m] w fun e w' => e = .returned (.agg #[.int .i64 (max a m), .int .i64 (min b m)]) ∧ Below w.heap.size w w' := by
  go_enter Try.func23, Try.ntmps23
  go_wp2_with fail
  refine (join_any _ _ _ _ _).mono ?_; rintro e w1 ⟨rfl, hb⟩
  obtain ⟨hc, hf⟩ := bcell hb
  have hz := hb.size
  simp at hz
  go_wp2_with fail
  exact bodyPost_ret (v := .agg #[.int .i64 (max a m), .int .i64 (min b m)]) (by simp [results, Try.results23, go_sem, hc]) rfl ⟨rfl, ((thru (ba2 _ _ _) hb).setCell (by simp <;> omega) _).setCell (by simp <;> omega) _⟩

/-! Lists that are read. -/
theorem block_of_add (a : Addr) (n : Nat) : (a.add n).block = a.block := by unfold Addr.add; split <;> rfl

/-- The numbers of a slice, below block B. -/
def Nums (w : World) (B : Nat) (A : Option Addr) (xs : List Int) : Prop :=
  ∀ k, k < xs.length → ∃ ad : Addr, A = some ad ∧ ad.block < B ∧ w.cell? (ad.add k) = some (.int .i64 (xs.getD k 0))

theorem Nums.below {w w' : World} {B : Nat} {A : Option Addr} {xs : List Int} (h : Nums w B A xs) (k : Below B w w') : Nums w' B A xs := fun i hi => by
  obtain ⟨ad, e, hb, hc⟩ := h i hi
  exact ⟨ad, e, hb, by rw [k.cell (by rw [block_of_add]; exact hb)]; exact hc⟩

theorem Nums.more {w : World} {B C : Nat} {A : Option Addr} {xs : List Int} (h : Nums w B A xs) (hc : B ≤ C) : Nums w C A xs := fun i hi => by
  obtain ⟨ad, e, hb, hx⟩ := h i hi
  exact ⟨ad, e, by omega, hx⟩

theorem Nums.thru {w w' : World} {A : Option Addr} {xs : List Int} (h : Nums w w.heap.size A xs) (k : Below w.heap.size w w') : Nums w' w'.heap.size A xs :=
  (h.below k).more k.size

def inB (n : Int) : Bool := decide (-1152921504606846976 ≤ n ∧ n ≤ 1152921504606846976)

theorem take_next (xs : List Int) (k : Nat) (h : k < xs.length) : xs.take (k + 1) = xs.take k ++ [xs.getD k 0] := by
  rw [List.take_succ_eq_append_getElem h]; simp [List.getD, h]

theorem all_out (xs : List Int) (k : Nat) (h : k < xs.length) (y : Int) (hy : y = xs.getD k 0) (hb : inB y = false) : xs.all inB = false := by
  rw [List.all_eq_false]
  refine ⟨y, ?_, by rw [hb]; simp⟩
  rw [hy]; simp [List.getD, h]

theorem ret_int {a b : Int} (h : a = b) : Ending.returned (.int .i64 a) = .returned (.int .i64 b) := by rw [h]
theorem ret_bool {a b : Bool} (h : a = b) : Ending.returned (.bool a) = .returned (.bool b) := by rw [h]

/-- The greatest one above 0, and the least one below 0. -/
def mostOf (xs : List Int) : Int := xs.foldl max 0
def leastOf (xs : List Int) : Int := xs.foldl min 0

theorem mostOf_take (xs : List Int) (k : Nat) (h : k < xs.length) : mostOf (xs.take (k + 1)) = max (mostOf (xs.take k)) (xs.getD k 0) := by
  unfold mostOf; rw [take_next xs k h, List.foldl_append]; rfl
theorem leastOf_take (xs : List Int) (k : Nat) (h : k < xs.length) : leastOf (xs.take (k + 1)) = min (leastOf (xs.take k)) (xs.getD k 0) := by
  unfold leastOf; rw [take_next xs k h, List.foldl_append]; rfl

set_option maxHeartbeats 400000 in
theorem most_any (A : Option Addr) (n c : Nat) (xs : List Int) (w : World) (hn : n = xs.length) (hlen : n ≤ 9223372036854775807) (B : Nat) (hx : Nums w B A xs) :
    Calls Try.prog 26 #[.slice A n c] w fun e w' => e = .returned (.int .i64 (mostOf xs)) ∧ w = w' := by
  have HX := Lib.hid hx
  have HN := Lib.hid hn
  clear hx hn
  go_enter Try.func26, Try.ntmps26
  go_wp2
  go_loop [3, 4] (fun v i => ∃ k : Nat, ∃ m : Int, k ≤ n ∧ i = .int .i64 k ∧ v = .int .i64 m ∧ m = mostOf (xs.take k)) (fun _ i => n - (intOf i).toNat)
  case atStart => exact ⟨0, 0, Nat.zero_le _, rfl, rfl, rfl⟩
  case round =>
    obtain ⟨k, m, hk, rfl, rfl, hm⟩ := hrel
    have HM := Lib.hid hm
    clear hm
    by_cases hlt : k < n
    · obtain ⟨ad, hA, _, hcx⟩ := HX.out k (by rw [← HN.out]; exact hlt)
      subst hA
      obtain ⟨y, hy⟩ : ∃ y, y = xs.getD k 0 := ⟨_, rfl⟩
      rw [← hy] at hcx
      have HY := Lib.hid hy
      clear hy
      have HS := Lib.hid (mostOf_take xs k (by rw [← HN.out]; exact hlt))
      by_cases hg : m < y
      · go_wp2
        go_round
        case rel => exact ⟨k + 1, y, by omega, by go_num, rfl, by rw [HS.out, ← HM.out, ← HY.out]; omega⟩
        case measure => simp [intOf]; omega
      · go_wp2
        go_round
        case rel => exact ⟨k + 1, m, by omega, by go_num, rfl, by rw [HS.out, ← HM.out, ← HY.out]; omega⟩
        case measure => simp [intOf]; omega
    · have hv : m = mostOf xs := by rw [HM.out, List.take_of_length_le (by rw [← HN.out]; omega)]
      have HV := Lib.hid hv
      clear hv
      go_wp2
      go_ret
      exact ⟨ret_int HV.out, rfl⟩

set_option maxHeartbeats 400000 in
theorem least_any (A : Option Addr) (n c : Nat) (xs : List Int) (w : World) (hn : n = xs.length) (hlen : n ≤ 9223372036854775807) (B : Nat) (hx : Nums w B A xs) :
    Calls Try.prog 27 #[.slice A n c] w fun e w' => e = .returned (.int .i64 (leastOf xs)) ∧ w = w' := by
  have HX := Lib.hid hx
  have HN := Lib.hid hn
  clear hx hn
  go_enter Try.func27, Try.ntmps27
  go_wp2
  go_loop [3, 4] (fun v i => ∃ k : Nat, ∃ m : Int, k ≤ n ∧ i = .int .i64 k ∧ v = .int .i64 m ∧ m = leastOf (xs.take k)) (fun _ i => n - (intOf i).toNat)
  case atStart => exact ⟨0, 0, Nat.zero_le _, rfl, rfl, rfl⟩
  case round =>
    obtain ⟨k, m, hk, rfl, rfl, hm⟩ := hrel
    have HM := Lib.hid hm
    clear hm
    by_cases hlt : k < n
    · obtain ⟨ad, hA, _, hcx⟩ := HX.out k (by rw [← HN.out]; exact hlt)
      subst hA
      obtain ⟨y, hy⟩ : ∃ y, y = xs.getD k 0 := ⟨_, rfl⟩
      rw [← hy] at hcx
      have HY := Lib.hid hy
      clear hy
      have HS := Lib.hid (leastOf_take xs k (by rw [← HN.out]; exact hlt))
      by_cases hg : y < m
      · go_wp2
        go_round
        case rel => exact ⟨k + 1, y, by omega, by go_num, rfl, by rw [HS.out, ← HM.out, ← HY.out]; omega⟩
        case measure => simp [intOf]; omega
      · go_wp2
        go_round
        case rel => exact ⟨k + 1, m, by omega, by go_num, rfl, by rw [HS.out, ← HM.out, ← HY.out]; omega⟩
        case measure => simp [intOf]; omega
    · have hv : m = leastOf xs := by rw [HM.out, List.take_of_length_le (by rw [← HN.out]; omega)]
      have HV := Lib.hid hv
      clear hv
      go_wp2
      go_ret
      exact ⟨ret_int HV.out, rfl⟩

set_option maxHeartbeats 400000 in
theorem of_any (A : Option Addr) (n c : Nat) (xs : List Int) (w : World) (hn : n = xs.length) (hlen : n ≤ 9223372036854775807) (hx : Nums w w.heap.size A xs) :
    Calls Try.prog 25 #[.slice A n c] w fun e w' => e = .returned (.agg #[.int .i64 (mostOf xs), .int .i64 (leastOf xs)]) ∧ Below w.heap.size w w' := by
  have HX := Lib.hid hx
  have HN := Lib.hid hn
  clear hx hn
  go_enter Try.func25, Try.ntmps25
  go_wp2_with fail
  go_loopw [9] (fun i wr => ∃ k : Nat, ∃ p q : Int, k ≤ n ∧ i = .int .i64 k ∧ wr.cell? ⟨w.heap.size + 1, 0, none⟩ = some (.int .i64 p) ∧ wr.cell? ⟨w.heap.size + 1, 1, none⟩ = some (.int .i64 q) ∧
    wr.frozen? ⟨w.heap.size + 1, 0, none⟩ = false ∧ wr.frozen? ⟨w.heap.size + 1, 1, none⟩ = false ∧ wr.cell? ⟨w.heap.size, 0, none⟩ = some (.int .i64 0) ∧ wr.cell? ⟨w.heap.size, 1, none⟩ = some (.int .i64 0) ∧
    wr.frozen? ⟨w.heap.size, 0, none⟩ = false ∧ wr.frozen? ⟨w.heap.size, 1, none⟩ = false ∧ Hid (p = mostOf (xs.take k) ∧ q = leastOf (xs.take k) ∧ Below w.heap.size w wr ∧ w.heap.size + 2 ≤ wr.heap.size)) (fun i _ => n - (intOf i).toNat)
  case atStart => exact ⟨0, 0, 0, Nat.zero_le _, rfl, by simp [go_sem], by simp [go_sem], by simp [go_sem], by simp [go_sem], by simp [go_sem], by simp [go_sem], by simp [go_sem], by simp [go_sem], Lib.hid ⟨rfl, rfl, ba2 _ _ _, by simp⟩⟩
  case round =>
    obtain ⟨k, p, q, hk, rfl, c0, c1, f0, f1, d0, d1, g0, g1, H⟩ := hrel
    by_cases hlt : k < n
    · obtain ⟨ad, hA, _, hcx⟩ := (HX.out.below H.out.2.2.1) k (by rw [← HN.out]; exact hlt)
      subst hA
      obtain ⟨y, hy⟩ : ∃ y, y = xs.getD k 0 := ⟨_, rfl⟩
      rw [← hy] at hcx
      have HY := Lib.hid hy
      clear hy
      have HS := Lib.hid (mostOf_take xs k (by rw [← HN.out]; exact hlt))
      have HT := Lib.hid (leastOf_take xs k (by rw [← HN.out]; exact hlt))
      go_wp2_with fail
      refine (with_any _ _ _ _).mono ?_; rintro e w1 ⟨rfl, hb⟩
      obtain ⟨hc, hf⟩ := bcell hb
      have hz : w.heap.size + 2 ≤ w1.heap.size := Nat.le_trans H.out.2.2.2 hb.size
      have hz0 := H.out.2.2.2
      have e0 := hc (w.heap.size + 1) 0 (by omega)
      have e1 := hc (w.heap.size + 1) 1 (by omega)
      have e2 := hc w.heap.size 0 (by omega)
      have e3 := hc w.heap.size 1 (by omega)
      have i0 := hf (w.heap.size + 1) 0 (by omega)
      have i1 := hf (w.heap.size + 1) 1 (by omega)
      have i2 := hf w.heap.size 0 (by omega)
      have i3 := hf w.heap.size 1 (by omega)
      rw [c0] at e0
      rw [c1] at e1
      rw [d0] at e2
      rw [d1] at e3
      rw [f0] at i0
      rw [f1] at i1
      rw [g0] at i2
      rw [g1] at i3
      have HB := Lib.hid hb
      clear c0 c1 d0 d1 f0 f1 g0 g1 hb hc hf
      go_wp2_with fail
      go_roundw
      case rel =>
        refine ⟨k + 1, max p y, min q y, by omega, by go_num, by simp [go_sem, e0], by simp [go_sem, e1], by simp [go_sem, i0], by simp [go_sem, i1], by simp [go_sem, e2], by simp [go_sem, e3], by simp [go_sem, i2], by simp [go_sem, i3], Lib.hid ⟨?_, ?_, ?_, ?_⟩⟩
        · rw [HS.out, ← HY.out, ← H.out.1]
        · rw [HT.out, ← HY.out, ← H.out.2.1]
        · exact (((thru H.out.2.2.1 HB.out).setCell (show _ ≤ w.heap.size + 1 by omega) _).setCell (show _ ≤ w.heap.size + 1 by omega) _)
        · simpa using hz
      case measure => simp [intOf]; omega
    · have hv : p = mostOf xs ∧ q = leastOf xs := by
        rw [H.out.1, H.out.2.1, List.take_of_length_le (by rw [← HN.out]; omega)]; exact ⟨rfl, rfl⟩
      have HV := Lib.hid hv
      clear hv
      go_wp2_with fail
      exact bodyPost_ret (v := .agg #[.int .i64 (mostOf xs), .int .i64 (leastOf xs)]) (by simp [results, Try.results25, go_sem, d0, d1, HV.out]) rfl ⟨rfl, (H.out.2.2.1.setCell (show _ ≤ w.heap.size by omega) _).setCell (show _ ≤ w.heap.size by omega) _⟩

end Go.Proofs.Ytkjbimoflmkekaa.Strut
