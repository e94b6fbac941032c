/- What margins come to in the document's words; the law's own example; the walk of StrutRaw. -/
import Derived.Test.YtkjbimoflmkekaaStrutBase
import Derived.Deep.DeepCutAuto
namespace Go.Proofs.Ytkjbimoflmkekaa.Strut
open Go.RowKit

theorem bounds_step (xs : List Int) : ∀ p q : Int, xs.all inB = true → (0 ≤ p ∧ p ≤ 1152921504606846976) → (-1152921504606846976 ≤ q ∧ q ≤ 0) →
    (0 ≤ xs.foldl max p ∧ xs.foldl max p ≤ 1152921504606846976) ∧ (-1152921504606846976 ≤ xs.foldl min q ∧ xs.foldl min q ≤ 0) := by
  induction xs with
  | nil => intro p q _ hp hq; exact ⟨hp, hq⟩
  | cons n l ih =>
    intro p q h hp hq
    simp only [List.all_cons, Bool.and_eq_true] at h
    have hn := h.1
    unfold inB at hn
    simp at hn
    exact ih (max p n) (min q n) h.2 (by omega) (by omega)

theorem bounds_of (xs : List Int) (h : xs.all inB = true) : (0 ≤ mostOf xs ∧ mostOf xs ≤ 1152921504606846976) ∧ (-1152921504606846976 ≤ leastOf xs ∧ leastOf xs ≤ 0) :=
  bounds_step xs 0 0 h (by omega) (by omega)

theorem inB_iff {n : Int} (h : inB n = true) : -1152921504606846976 ≤ n ∧ n ≤ 1152921504606846976 := by
  unfold inB at h; simpa using h

set_option maxHeartbeats 400000 in
theorem rsum_any (A : Option Addr) (n c : Nat) (xs : List Int) (w : World) (hn : n = xs.length) (hlen : n ≤ 9223372036854775807) (B : Nat) (hx : Nums w B A xs) (hb : xs.all inB = true) :
    Calls Try.prog 22 #[.slice A n c] w fun e w' => e = .returned (.int .i64 (mostOf xs + leastOf xs)) ∧ w = w' := by
  obtain ⟨⟨h1, h2⟩, h3, h4⟩ := bounds_of xs hb
  have HX := Lib.hid hx
  have HN := Lib.hid hn
  clear hx hn
  go_enter Try.func22, Try.ntmps22
  go_wp2_with fail
  refine (most_any _ _ _ xs _ HN.out hlen _ HX.out).mono ?_; rintro e w1 ⟨rfl, rfl⟩
  go_wp2_with fail
  refine (least_any _ _ _ xs _ HN.out hlen _ HX.out).mono ?_; rintro e w1 ⟨rfl, rfl⟩
  go_wp2_with fail
  go_ret
  exact ⟨rfl, rfl⟩

/-! Lists that are written out. -/
theorem nums3 (w : World) (a b c : Int) : Nums (w.alloc (.cells #[.int .i64 a, .int .i64 b, .int .i64 c] 3)) (w.alloc (.cells #[.int .i64 a, .int .i64 b, .int .i64 c] 3)).heap.size (some ⟨w.heap.size, 0, none⟩) [a, b, c] := by
  intro k hk
  refine ⟨_, rfl, by simp, ?_⟩
  match k, hk with
  | 0, _ => simp [go_sem, Addr.add]
  | 1, _ => simp [go_sem, Addr.add]
  | 2, _ => simp [go_sem, Addr.add]
  | k + 3, h => (simp only [List.length_cons, List.length_nil] at h; omega)
theorem nums2 (w : World) (a b : Int) : Nums (w.alloc (.cells #[.int .i64 a, .int .i64 b] 3)) (w.alloc (.cells #[.int .i64 a, .int .i64 b] 3)).heap.size (some ⟨w.heap.size, 0, none⟩) [a, b] := by
  intro k hk
  refine ⟨_, rfl, by simp, ?_⟩
  match k, hk with
  | 0, _ => simp [go_sem, Addr.add]
  | 1, _ => simp [go_sem, Addr.add]
  | k + 2, h => (simp only [List.length_cons, List.length_nil] at h; omega)
theorem nums1 (w : World) (a : Int) : Nums (w.alloc (.cells #[.int .i64 a] 3)) (w.alloc (.cells #[.int .i64 a] 3)).heap.size (some ⟨w.heap.size, 0, none⟩) [a] := by
  intro k hk
  refine ⟨_, rfl, by simp, ?_⟩
  match k, hk with
  | 0, _ => simp [go_sem, Addr.add]
  | k + 1, h => (simp only [List.length_cons, List.length_nil] at h; omega)
theorem nums0 (w : World) (B : Nat) (A : Option Addr) : Nums w B A [] := fun k hk => by simp at hk

theorem example_of (w : World) : Calls Try.prog 25 #[.slice (some ⟨w.heap.size, 0, none⟩) 3 3] (w.alloc (.cells #[.int .i64 10, .int .i64 (-3), .int .i64 4] 3))
    fun e w' => e = .returned (.agg #[.int .i64 10, .int .i64 (-3)]) ∧ Below w.heap.size w w' :=
  (of_any _ 3 3 [10, -3, 4] _ rfl (by omega) (nums3 w 10 (-3) 4)).mono fun _ _ ⟨he, hb⟩ => ⟨he, thru (ba1 w _) hb⟩

end Go.Proofs.Ytkjbimoflmkekaa.Strut
