/- What margins come to in the document's words; the law's own example; the walk of StrutRaw. -/
import Derived.Test.YtfiagopmolegjaaBase
import Derived.Deep.DeepCutAuto
namespace Go.Proofs.Ytfiagopmolegjaa
open Go.RowKit

theorem bounds_step (xs : List Int) : ∀ p q : Int, xs.all inB = true → (0 ≤ p ∧ p ≤ 1152921504606846976) → (-1152921504606846976 ≤ q ∧ q ≤ 0) →
    (0 ≤ xs.foldl max p ∧ xs.foldl max p ≤ 1152921504606846976) ∧ (-1152921504606846976 ≤ xs.foldl min q ∧ xs.foldl min q ≤ 0) := by
  induction xs with
  | nil => intro p q _ hp hq; exact ⟨hp, hq⟩
  | cons n l ih =>
    intro p q h hp hq
    simp only [List.all_cons, Bool.and_eq_true] at h
    have hn := h.1
    unfold inB at hn
    simp at hn
    exact ih (max p n) (min q n) h.2 (by omega) (by omega)

theorem bounds_of (xs : List Int) (h : xs.all inB = true) : (0 ≤ mostOf xs ∧ mostOf xs ≤ 1152921504606846976) ∧ (-1152921504606846976 ≤ leastOf xs ∧ leastOf xs ≤ 0) :=
  bounds_step xs 0 0 h (by omega) (by omega)

theorem inB_iff {n : Int} (h : inB n = true) : -1152921504606846976 ≤ n ∧ n ≤ 1152921504606846976 := by
  unfold inB at h; simpa using h

set_option maxHeartbeats 400000 in
theorem rsum_any (A : Option Addr) (n c : Nat) (xs : List Int) (w : World) (hn : n = xs.length) (hlen : n ≤ 9223372036854775807) (B : Nat) (hx : Nums w B A xs) (hb : xs.all inB = true) :
    Calls Try.prog 14 #[.slice A n c] w fun e w' => e = .returned (.int .i64 (mostOf xs + leastOf xs)) ∧ w = w' := by
  obtain ⟨⟨h1, h2⟩, h3, h4⟩ := bounds_of xs hb
  have HX := Lib.hid hx
  have HN := Lib.hid hn
  clear hx hn
  go_enter Try.func14, Try.ntmps14
  go_wp2_with fail
  refine (most_any _ _ _ xs _ HN.out hlen _ HX.out).mono ?_; rintro e w1 ⟨rfl, rfl⟩
  go_wp2_with fail
  refine (least_any _ _ _ xs _ HN.out hlen _ HX.out).mono ?_; rintro e w1 ⟨rfl, rfl⟩
  go_wp2_with fail
  go_ret
  exact ⟨rfl, rfl⟩

/-! Lists that are written out. -/
theorem nums3 (w : World) (a b c : Int) : Nums (w.alloc (.cells #[.int .i64 a, .int .i64 b, .int .i64 c] 3)) (w.alloc (.cells #[.int .i64 a, .int .i64 b, .int .i64 c] 3)).heap.size (some ⟨w.heap.size, 0, none⟩) [a, b, c] := by
  intro k hk
  refine ⟨_, rfl, by simp, ?_⟩
  match k, hk with
  | 0, _ => simp [go_sem, Addr.add]
  | 1, _ => simp [go_sem, Addr.add]
  | 2, _ => simp [go_sem, Addr.add]
  | k + 3, h => (simp only [List.length_cons, List.length_nil] at h; omega)
theorem nums2 (w : World) (a b : Int) : Nums (w.alloc (.cells #[.int .i64 a, .int .i64 b] 3)) (w.alloc (.cells #[.int .i64 a, .int .i64 b] 3)).heap.size (some ⟨w.heap.size, 0, none⟩) [a, b] := by
  intro k hk
  refine ⟨_, rfl, by simp, ?_⟩
  match k, hk with
  | 0, _ => simp [go_sem, Addr.add]
  | 1, _ => simp [go_sem, Addr.add]
  | k + 2, h => (simp only [List.length_cons, List.length_nil] at h; omega)
theorem nums1 (w : World) (a : Int) : Nums (w.alloc (.cells #[.int .i64 a] 3)) (w.alloc (.cells #[.int .i64 a] 3)).heap.size (some ⟨w.heap.size, 0, none⟩) [a] := by
  intro k hk
  refine ⟨_, rfl, by simp, ?_⟩
  match k, hk with
  | 0, _ => simp [go_sem, Addr.add]
  | k + 1, h => (simp only [List.length_cons, List.length_nil] at h; omega)
theorem nums0 (w : World) (B : Nat) (A : Option Addr) : Nums w B A [] := fun k hk => by simp at hk

theorem example_of (w : World) : Calls Try.prog 10 #[.slice (some ⟨w.heap.size, 0, none⟩) 3 3] (w.alloc (.cells #[.int .i64 10, .int .i64 (-3), .int .i64 4] 3))
    fun e w' => e = .returned (.agg #[.int .i64 10, .int .i64 (-3)]) ∧ Below w.heap.size w w' :=
  (of_any _ 3 3 [10, -3, 4] _ rfl (by omega) (nums3 w 10 (-3) 4)).mono fun _ _ ⟨he, hb⟩ => ⟨he, thru (ba1 w _) hb⟩

theorem speaks_any (w : World) :
    Calls Try.prog 8 #[] w fun e w' => e = .returned (.bool true) ∧ Below w.heap.size w w' := by
  go_enter Try.func8, Try.ntmps8
  go_wp2_with fail
  refine (example_of _).mono ?_; rintro e w1 ⟨rfl, b1⟩
  go_wp2_with fail
  refine (sum_any _ _ (by omega) (by omega) _).mono ?_; rintro e w2 ⟨rfl, b2⟩
  replace b2 := thru b1 b2
  clear b1
  go_wp2_with fail
  refine (example_of _).mono ?_; rintro e w3 ⟨rfl, b3⟩
  replace b3 := thru b2 b3
  clear b2
  go_wp2_with fail
  refine (right_is _ _ true (by decide) _).mono ?_; rintro e w4 ⟨rfl, b4⟩
  replace b4 := thru b3 b4
  clear b3
  go_wp2_with fail
  go_ret
  exact ⟨rfl, b4⟩

set_option maxRecDepth 100000 in
set_option maxHeartbeats 400000 in
theorem raw_no (a b m : Int) (w : World) (h : [a, b, m].all inB = false) :
    Calls Try.prog 5 #[.int .i64 a, .int .i64 b, .int .i64 m] w fun e w' => e = .returned (.bool true) ∧ Below w.heap.size w w' := by
  have H := Lib.hid h
  clear h
  go_enter Try.func5, Try.ntmps5
  go_wp2_with fail
  refine (speaks_any _).mono ?_; rintro e w1 ⟨rfl, b1⟩
  go_wp2_with fail
  refine (small_is _ 3 3 [a, b, m] _ rfl (by omega) _ (nums3 w1 a b m) _ H.out).mono ?_; rintro e w2 ⟨rfl, rfl⟩
  go_wp2_with fail
  refine (speaks_any _).mono ?_; rintro e w3 ⟨rfl, b3⟩
  go_wp2_with fail
  go_ret
  exact ⟨rfl, thru b1 (thru (ba1 _ _) b3)⟩

set_option maxRecDepth 100000 in
set_option maxHeartbeats 1000000 in
theorem raw_yes (a b m : Int) (w : World) (h : [a, b, m].all inB = true) :
    Calls Try.prog 5 #[.int .i64 a, .int .i64 b, .int .i64 m] w fun e w' => e = .returned (.bool true) ∧ Below w.heap.size w w' := by
  have H := Lib.hid h
  have Ba := Lib.hid (inB_iff (n := a) (by simp at h; exact h.1))
  have Bb := Lib.hid (inB_iff (n := b) (by simp at h; exact h.2.1))
  obtain ⟨_, _⟩ := Ba.out
  obtain ⟨_, _⟩ := Bb.out
  clear h
  have hp : 0 ≤ a ∧ b ≤ 0 ∧ (decide (b ≤ 0) && decide (0 ≤ a)) = true ∨ 0 ≤ a ∧ ¬ b ≤ 0 ∧ (decide (b ≤ 0) && decide (0 ≤ a)) = false ∨ ¬ 0 ≤ a ∧ b ≤ b ∧ (decide (b ≤ 0) && decide (0 ≤ a)) = false := by
    by_cases h1 : 0 ≤ a <;> by_cases h2 : b ≤ 0 <;> simp [h1, h2]
  rcases hp with ⟨ha, hb, hv⟩ | ⟨ha, hb, hv⟩ | ⟨ha, hb, hv⟩
  all_goals
    have HV := Lib.hid hv
    clear hv
    go_enter Try.func5, Try.ntmps5
    go_wp2_with fail
    refine (speaks_any _).mono ?_; rintro e w1 ⟨rfl, b1⟩
    go_wp2_with fail
    refine (small_is _ 3 3 [a, b, m] _ rfl (by omega) _ (nums3 w1 a b m) _ H.out).mono ?_; rintro e w2 ⟨rfl, rfl⟩
    go_wp2_with fail
    refine (with_any _ _ _ _).mono ?_; rintro e w3 ⟨rfl, b3⟩
    obtain ⟨c3, f3⟩ := bcell b3
    have hz := b3.size
    simp at hz
    have e0 := c3 (w1.heap.size + 1) 0 (by simp)
    have e1 := c3 (w1.heap.size + 1) 1 (by simp)
    simp [go_sem] at e0 e1
    have hlt : w1.heap.size + 1 < w3.heap.size := by omega
    have hne : ¬ (w1.heap.size + 1 = w3.heap.size) := by omega
    clear c3 f3 hz
    go_upto_region 5 with fail
    generalize hW : World.alloc w3 _ = W
    have d0 : W.cell? ⟨w1.heap.size + 1, 0, none⟩ = some (.int .i64 a) := by rw [← hW, World.cell?_alloc_past _ _ _ hlt]; exact e0
    have d1 : W.cell? ⟨w1.heap.size + 1, 1, none⟩ = some (.int .i64 b) := by rw [← hW, World.cell?_alloc_past _ _ _ hlt]; exact e1
    have d2 : W.cell? ⟨w3.heap.size, 0, none⟩ = some (.int .i64 (max a m)) := by rw [← hW]; simp [go_sem]
    have d3 : W.cell? ⟨w3.heap.size, 1, none⟩ = some (.int .i64 (min b m)) := by rw [← hW]; simp [go_sem]
    have hs : w1.heap.size + 1 < W.heap.size := by rw [← hW]; simp; omega
    have B3 : Hid (Below w.heap.size w W) := Lib.hid (by rw [← hW]; exact thru (thru (thru b1 (ba2 w1 _ _)) b3) (ba1 w3 _))
    clear e0 e1 hlt hne hW b1 b3
    go_wp2_with fail
  all_goals
    refine (sum_any _ _ Ba.out Bb.out _).mono ?_; rintro e w4 ⟨rfl, b4⟩
    have e0 : w4.cell? ⟨w1.heap.size + 1, 0, none⟩ = some (.int .i64 a) := by rw [b4.cell (show w1.heap.size + 1 < W.heap.size from hs)]; exact d0
    have e1 : w4.cell? ⟨w1.heap.size + 1, 1, none⟩ = some (.int .i64 b) := by rw [b4.cell (show w1.heap.size + 1 < W.heap.size from hs)]; exact d1
    clear d0 d1 d2 d3 hs
    go_wp2_with fail
    refine (right_is _ _ _ HV.out _).mono ?_; rintro e w5 ⟨rfl, b5⟩
    go_wp2_with fail
    go_ret
    first | exact ⟨rfl, thru (thru B3.out b4) b5⟩ | exact ⟨by simp; omega, thru (thru B3.out b4) b5⟩

theorem raw_any (a b m : Int) (w : World) :
    Calls Try.prog 5 #[.int .i64 a, .int .i64 b, .int .i64 m] w fun e w' => e = .returned (.bool true) ∧ Below w.heap.size w w' := by
  cases h : [a, b, m].all inB with
  | false => exact raw_no _ _ _ w h
  | true => exact raw_yes _ _ _ w h

end Go.Proofs.Ytfiagopmolegjaa
