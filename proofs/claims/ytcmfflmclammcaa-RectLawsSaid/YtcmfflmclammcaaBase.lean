/- The contracts of rect's small functions, of the document's, and of the law's own conversion. -/
import Derived.Test.YtcmfflmclammcaaRows
import Derived.WalkKit
import Derived.WalkSpells
import Derived.WalkLawsBesides
import Derived.BigQuiet
import Derived.Lib.Hide
import Derived.Lib.QuietBelow
namespace Go.Proofs.Ytcmfflmclammcaa
open Go.RowKit

theorem ba1 (w : World) (o : Obj) : Below w.heap.size w (w.alloc o) := (Below.refl _ _).alloc (Nat.le_refl _) o
theorem ba2 (w : World) (o p : Obj) : Below w.heap.size w ((w.alloc o).alloc p) := (ba1 w o).alloc (by simp) p
theorem ba3 (w : World) (o p q : Obj) : Below w.heap.size w (((w.alloc o).alloc p).alloc q) := (ba2 w o p).alloc (by simp; omega) q

set_option maxHeartbeats 400000 in
theorem columns_any (l t r b : Int) (w : World) :
    Calls Try.prog 19 #[.agg #[.int .i64 l, .int .i64 t, .int .i64 r, .int .i64 b]] w fun e w' => e = .returned (.agg #[.int .i64 l, .int .i64 r]) ∧ Below w.heap.size w w' := by
  go_enter Try.func19, Try.ntmps19
  go_wp2
  all_goals exact bodyPost_ret (v := .agg #[.int .i64 l, .int .i64 r]) (by simp [results, Try.results19, go_sem]) rfl ⟨rfl, by first | exact ba1 _ _ | exact ba2 _ _ _ | exact ba3 _ _ _ _⟩

set_option maxHeartbeats 400000 in
theorem rows_any (l t r b : Int) (w : World) :
    Calls Try.prog 20 #[.agg #[.int .i64 l, .int .i64 t, .int .i64 r, .int .i64 b]] w fun e w' => e = .returned (.agg #[.int .i64 t, .int .i64 b]) ∧ Below w.heap.size w w' := by
  go_enter Try.func20, Try.ntmps20
  go_wp2
  all_goals exact bodyPost_ret (v := .agg #[.int .i64 t, .int .i64 b]) (by simp [results, Try.results20, go_sem]) rfl ⟨rfl, by first | exact ba1 _ _ | exact ba2 _ _ _ | exact ba3 _ _ _ _⟩

set_option maxHeartbeats 400000 in
theorem rof_any (a b c d : Int) (w : World) :
    Calls Try.prog 18 #[.agg #[.int .i64 a, .int .i64 b], .agg #[.int .i64 c, .int .i64 d]] w fun e w' => e = .returned (.agg #[.int .i64 a, .int .i64 c, .int .i64 b, .int .i64 d]) ∧ Below w.heap.size w w' := by
  go_enter Try.func18, Try.ntmps18
  go_wp2
  all_goals exact bodyPost_ret (v := .agg #[.int .i64 a, .int .i64 c, .int .i64 b, .int .i64 d]) (by simp [results, Try.results18, go_sem]) rfl ⟨rfl, by first | exact ba1 _ _ | exact ba2 _ _ _ | exact ba3 _ _ _ _⟩

set_option maxHeartbeats 400000 in
theorem of_any (x0 x1 x2 x3 : Int) (w : World) :
    Calls Try.prog 7 #[.agg #[.int .i64 x0, .int .i64 x1, .int .i64 x2, .int .i64 x3]] w fun e w' => e = .returned (.agg #[.int .i64 x0, .int .i64 x1, .int .i64 x2, .int .i64 x3]) ∧ Below w.heap.size w w' := by
  go_enter Try.func7, Try.ntmps7
  go_wp2
  all_goals exact bodyPost_ret (v := .agg #[.int .i64 x0, .int .i64 x1, .int .i64 x2, .int .i64 x3]) (by simp [results, Try.results7, go_sem]) rfl ⟨rfl, by first | exact ba1 _ _ | exact ba2 _ _ _ | exact ba3 _ _ _ _⟩

set_option maxHeartbeats 400000 in
theorem clip_any (a b c d : Int) (w : World) :
    Calls Try.prog 25 #[.agg #[.int .i64 a, .int .i64 b], .agg #[.int .i64 c, .int .i64 d]] w fun e w' => e = .returned (.agg #[.int .i64 (max a c), .int .i64 (min b d)]) ∧ Below w.heap.size w w' := by
  go_enter Try.func25, Try.ntmps25
  go_wp2
  all_goals exact bodyPost_ret (v := .agg #[.int .i64 (max a c), .int .i64 (min b d)]) (by simp [results, Try.results25, go_sem]; try omega) rfl ⟨rfl, by first | exact ba1 _ _ | exact ba2 _ _ _ | exact ba3 _ _ _ _⟩

set_option maxHeartbeats 400000 in
theorem shift_any (l t r b x y : Int) (hl : -1152921504606846976 ≤ l ∧ l ≤ 1152921504606846976) (ht : -1152921504606846976 ≤ t ∧ t ≤ 1152921504606846976) (hr : -1152921504606846976 ≤ r ∧ r ≤ 1152921504606846976) (hb : -1152921504606846976 ≤ b ∧ b ≤ 1152921504606846976) (hx : -1152921504606846976 ≤ x ∧ x ≤ 1152921504606846976) (hy : -1152921504606846976 ≤ y ∧ y ≤ 1152921504606846976) (w : World) :
    Calls Try.prog 14 #[.agg #[.int .i64 l, .int .i64 t, .int .i64 r, .int .i64 b], .int .i64 x, .int .i64 y] w fun e w' => e = .returned (.agg #[.int .i64 (l + x), .int .i64 (t + y), .int .i64 (r + x), .int .i64 (b + y)]) ∧ Below w.heap.size w w' := by
  obtain ⟨hl, kl⟩ := hl
  obtain ⟨ht, kt⟩ := ht
  obtain ⟨hr, kr⟩ := hr
  obtain ⟨hb, kb⟩ := hb
  obtain ⟨hx, kx⟩ := hx
  obtain ⟨hy, ky⟩ := hy
  go_enter Try.func14, Try.ntmps14
  go_wp2
  all_goals exact bodyPost_ret (v := .agg #[.int .i64 (l + x), .int .i64 (t + y), .int .i64 (r + x), .int .i64 (b + y)]) (by simp [results, Try.results14, go_sem]) rfl ⟨rfl, by first | exact ba1 _ _ | exact ba2 _ _ _ | exact ba3 _ _ _ _⟩

set_option maxHeartbeats 400000 in
theorem grow_any (l t r b p q s u : Int) (hl : -1152921504606846976 ≤ l ∧ l ≤ 1152921504606846976) (ht : -1152921504606846976 ≤ t ∧ t ≤ 1152921504606846976) (hr : -1152921504606846976 ≤ r ∧ r ≤ 1152921504606846976) (hb : -1152921504606846976 ≤ b ∧ b ≤ 1152921504606846976) (hp : -1152921504606846976 ≤ p ∧ p ≤ 1152921504606846976) (hq : -1152921504606846976 ≤ q ∧ q ≤ 1152921504606846976) (hs : -1152921504606846976 ≤ s ∧ s ≤ 1152921504606846976) (hu : -1152921504606846976 ≤ u ∧ u ≤ 1152921504606846976) (w : World) :
    Calls Try.prog 16 #[.agg #[.int .i64 l, .int .i64 t, .int .i64 r, .int .i64 b], .agg #[.int .i64 p, .int .i64 q, .int .i64 s, .int .i64 u]] w fun e w' => e = .returned (.agg #[.int .i64 (l - u), .int .i64 (t - p), .int .i64 (r + q), .int .i64 (b + s)]) ∧ Below w.heap.size w w' := by
  obtain ⟨hl, kl⟩ := hl
  obtain ⟨ht, kt⟩ := ht
  obtain ⟨hr, kr⟩ := hr
  obtain ⟨hb, kb⟩ := hb
  obtain ⟨hp, kp⟩ := hp
  obtain ⟨hq, kq⟩ := hq
  obtain ⟨hs, ks⟩ := hs
  obtain ⟨hu, ku⟩ := hu
  go_enter Try.func16, Try.ntmps16
  go_wp2
  all_goals exact bodyPost_ret (v := .agg #[.int .i64 (l - u), .int .i64 (t - p), .int .i64 (r + q), .int .i64 (b + s)]) (by simp [results, Try.results16, go_sem]) rfl ⟨rfl, by first | exact ba1 _ _ | exact ba2 _ _ _ | exact ba3 _ _ _ _⟩

set_option maxHeartbeats 400000 in
theorem rshift_any (l t r b x y : Int) (hl : -1152921504606846976 ≤ l ∧ l ≤ 1152921504606846976) (ht : -1152921504606846976 ≤ t ∧ t ≤ 1152921504606846976) (hr : -1152921504606846976 ≤ r ∧ r ≤ 1152921504606846976) (hb : -1152921504606846976 ≤ b ∧ b ≤ 1152921504606846976) (hx : -1152921504606846976 ≤ x ∧ x ≤ 1152921504606846976) (hy : -1152921504606846976 ≤ y ∧ y ≤ 1152921504606846976) (w : World) :
    Calls Try.prog 15 #[.agg #[.int .i64 l, .int .i64 t, .int .i64 r, .int .i64 b], .int .i64 x, .int .i64 y] w fun e w' => e = .returned (.agg #[.int .i64 (l + x), .int .i64 (t + y), .int .i64 (r + x), .int .i64 (b + y)]) ∧ Below w.heap.size w w' := by
  obtain ⟨hl, kl⟩ := hl
  obtain ⟨ht, kt⟩ := ht
  obtain ⟨hr, kr⟩ := hr
  obtain ⟨hb, kb⟩ := hb
  obtain ⟨hx, kx⟩ := hx
  obtain ⟨hy, ky⟩ := hy
  go_enter Try.func15, Try.ntmps15
  go_wp2
  all_goals exact bodyPost_ret (v := .agg #[.int .i64 (l + x), .int .i64 (t + y), .int .i64 (r + x), .int .i64 (b + y)]) (by simp [results, Try.results15, go_sem]) rfl ⟨rfl, by first | exact ba1 _ _ | exact ba2 _ _ _ | exact ba3 _ _ _ _⟩

set_option maxHeartbeats 400000 in
theorem rgrow_any (l t r b p q s u : Int) (hl : -1152921504606846976 ≤ l ∧ l ≤ 1152921504606846976) (ht : -1152921504606846976 ≤ t ∧ t ≤ 1152921504606846976) (hr : -1152921504606846976 ≤ r ∧ r ≤ 1152921504606846976) (hb : -1152921504606846976 ≤ b ∧ b ≤ 1152921504606846976) (hp : -1152921504606846976 ≤ p ∧ p ≤ 1152921504606846976) (hq : -1152921504606846976 ≤ q ∧ q ≤ 1152921504606846976) (hs : -1152921504606846976 ≤ s ∧ s ≤ 1152921504606846976) (hu : -1152921504606846976 ≤ u ∧ u ≤ 1152921504606846976) (w : World) :
    Calls Try.prog 17 #[.agg #[.int .i64 l, .int .i64 t, .int .i64 r, .int .i64 b], .agg #[.int .i64 p, .int .i64 q, .int .i64 s, .int .i64 u]] w fun e w' => e = .returned (.agg #[.int .i64 (l - u), .int .i64 (t - p), .int .i64 (r + q), .int .i64 (b + s)]) ∧ Below w.heap.size w w' := by
  obtain ⟨hl, kl⟩ := hl
  obtain ⟨ht, kt⟩ := ht
  obtain ⟨hr, kr⟩ := hr
  obtain ⟨hb, kb⟩ := hb
  obtain ⟨hp, kp⟩ := hp
  obtain ⟨hq, kq⟩ := hq
  obtain ⟨hs, ks⟩ := hs
  obtain ⟨hu, ku⟩ := hu
  go_enter Try.func17, Try.ntmps17
  go_wp2
  all_goals exact bodyPost_ret (v := .agg #[.int .i64 (l - u), .int .i64 (t - p), .int .i64 (r + q), .int .i64 (b + s)]) (by simp [results, Try.results17, go_sem]) rfl ⟨rfl, by first | exact ba1 _ _ | exact ba2 _ _ _ | exact ba3 _ _ _ _⟩

set_option maxHeartbeats 400000 in
theorem some_any (a b : Int) (w : World) :
    Calls Try.prog 21 #[.agg #[.int .i64 a, .int .i64 b]] w fun e w' => e = .returned (.bool (decide (a < b))) ∧ Below w.heap.size w w' := by
  go_enter Try.func21, Try.ntmps21
  go_wp2
  all_goals (go_ret; exact ⟨by simp [*] <;> omega, by first | exact ba1 _ _ | exact ba2 _ _ _⟩)

set_option maxHeartbeats 400000 in
theorem rfull_any (l t r b : Int) (w : World) :
    Calls Try.prog 9 #[.agg #[.int .i64 l, .int .i64 t, .int .i64 r, .int .i64 b]] w fun e w' => e = .returned (.bool (decide (l < r) && decide (t < b))) ∧ Below w.heap.size w w' := by
  go_enter Try.func9, Try.ntmps9
  go_wp2
  all_goals (go_ret; exact ⟨by simp [*] <;> omega, by first | exact ba1 _ _ | exact ba2 _ _ _⟩)

set_option maxHeartbeats 400000 in
theorem rhas_any (l t r b x y : Int) (w : World) :
    Calls Try.prog 23 #[.agg #[.int .i64 l, .int .i64 t, .int .i64 r, .int .i64 b], .int .i64 x, .int .i64 y] w fun e w' => e = .returned (.bool (decide (l ≤ x) && decide (x < r) && (decide (t ≤ y) && decide (y < b)))) ∧ Below w.heap.size w w' := by
  go_enter Try.func23, Try.ntmps23
  go_wp2
  all_goals (go_ret; exact ⟨by simp [*] <;> omega, by first | exact ba1 _ _ | exact ba2 _ _ _⟩)

set_option maxHeartbeats 400000 in
theorem greater_any (a b : Int) (w : World) :
    Calls Try.prog 22 #[.int .i64 a, .int .i64 b] w fun e w' => e = .returned (.int .i64 (max a b)) ∧ w = w' := by
  by_cases h : b < a
  · have hm : max a b = a := by omega
    rw [hm]
    clear hm
    go_enter Try.func22, Try.ntmps22
    go_wp2
    go_ret
    exact ⟨rfl, rfl⟩
  · have hm : max a b = b := by omega
    rw [hm]
    clear hm
    go_enter Try.func22, Try.ntmps22
    go_wp2
    go_ret
    exact ⟨rfl, rfl⟩

set_option maxHeartbeats 400000 in
theorem lesser_any (a b : Int) (w : World) :
    Calls Try.prog 26 #[.int .i64 a, .int .i64 b] w fun e w' => e = .returned (.int .i64 (min a b)) ∧ w = w' := by
  by_cases h : a < b
  · have hm : min a b = a := by omega
    rw [hm]
    clear hm
    go_enter Try.func26, Try.ntmps26
    go_wp2
    go_ret
    exact ⟨rfl, rfl⟩
  · have hm : min a b = b := by omega
    rw [hm]
    clear hm
    go_enter Try.func26, Try.ntmps26
    go_wp2
    go_ret
    exact ⟨rfl, rfl⟩

end Go.Proofs.Ytcmfflmclammcaa
