/- The contracts of Sub, of the document's own Add and Sub, of the example, and of Plus and Minus. -/
import Derived.Test.YtceanfocgdnnaaaBase
namespace Go.Proofs.Ytceanfocgdnnaaa
open Go.RowKit

theorem add_any (a b : Int) (w : World) :
    Calls Try.prog 9 #[.int .i64 a, .int .i64 b] w fun e w' => e = .returned (addV a b) ∧ w = w' := by
  by_cases h : sumFits a b
  · rw [addV_yes h]; obtain ⟨h1, h2, h3, h4, h5, h6⟩ := h
    exact add_yes a b h1 h2 h3 h4 h5 h6 w
  · rw [addV_no h]; exact add_no a b h w

/-- May both numbers, and their difference, be? -/
def diffFits (a b : Int) : Prop := -281474976710656 < a ∧ a < 281474976710656 ∧ -281474976710656 < b ∧ b < 281474976710656 ∧ -281474976710656 < a - b ∧ a - b < 281474976710656

instance (a b : Int) : Decidable (diffFits a b) := by unfold diffFits; exact inferInstance

set_option maxHeartbeats 400000 in
theorem sub_yes (a b : Int) (h : diffFits a b) (w : World) :
    Calls Try.prog 11 #[.int .i64 a, .int .i64 b] w fun e w' => e = .returned (.tuple #[.int .i64 (a - b), .bool true]) ∧ w = w' := by
  obtain ⟨h1, h2, h3, h4, h5, h6⟩ := h
  go_enter Try.func11, Try.ntmps11
  go_wp2_with fail
  refine (add_yes _ _ (by omega) (by omega) (by omega) (by omega) (by omega) (by omega) _).mono ?_; rintro e w' ⟨rfl, rfl⟩
  go_wp2_with fail
  go_ret2
  exact ⟨rfl, rfl⟩

set_option maxHeartbeats 400000 in
theorem sub_no (a b : Int) (hm : -9223372036854775808 ≤ b ∧ b ≤ 9223372036854775807) (h : ¬ diffFits a b) (w : World) :
    Calls Try.prog 11 #[.int .i64 a, .int .i64 b] w fun e w' => e = .returned (.tuple #[.int .i64 0, .bool false]) ∧ w = w' := by
  by_cases hb : -281474976710656 < b ∧ b < 281474976710656
  · obtain ⟨h3, h4⟩ := hb
    have hs : ¬ sumFits a (-b) := by unfold diffFits at h; unfold sumFits; omega
    clear h hm
    go_enter Try.func11, Try.ntmps11
    go_wp2_with fail
    refine (add_no _ _ hs _).mono ?_; rintro e w' ⟨rfl, rfl⟩
    go_wp2_with fail
    go_ret2
    exact ⟨rfl, rfl⟩
  · have hw := wrap_neg_may hm (by omega)
    have hs : ¬ sumFits a (wrap64 (-b)) := by unfold sumFits; omega
    clear h hm hb hw
    go_enter Try.func11, Try.ntmps11
    go_wp2_with fail
    refine (add_no _ _ hs _).mono ?_; rintro e w' ⟨rfl, rfl⟩
    go_wp2_with fail
    go_ret2
    exact ⟨rfl, rfl⟩

/-- What Sub answers. -/
def subV (a b : Int) : Value := .tuple #[.int .i64 (if diffFits a b then a - b else 0), .bool (decide (diffFits a b))]

theorem subV_yes {a b : Int} (h : diffFits a b) : subV a b = .tuple #[.int .i64 (a - b), .bool true] := by simp [subV, h]
theorem subV_no {a b : Int} (h : ¬ diffFits a b) : subV a b = .tuple #[.int .i64 0, .bool false] := by simp [subV, h]

theorem sub_any (a b : Int) (hm : -9223372036854775808 ≤ b ∧ b ≤ 9223372036854775807) (w : World) :
    Calls Try.prog 11 #[.int .i64 a, .int .i64 b] w fun e w' => e = .returned (subV a b) ∧ w = w' := by
  by_cases h : diffFits a b
  · rw [subV_yes h]; exact sub_yes a b h w
  · rw [subV_no h]; exact sub_no a b hm h w

/-! The document's own reckoning. -/
set_option maxHeartbeats 400000 in
theorem rmay_yes (a : Int) (h1 : -281474976710656 < a) (h2 : a < 281474976710656) (w : World) :
    Calls Try.prog 22 #[.int .i64 a] w fun e w' => e = .returned (.bool true) ∧ w = w' := by
  have h3 : -281474976710655 ≤ a := by omega
  have h4 : a ≤ 281474976710655 := by omega
  go_enter Try.func22, Try.ntmps22
  go_wp2
  go_ret
  exact ⟨rfl, rfl⟩

set_option maxHeartbeats 400000 in
theorem rmay_no (a : Int) (h : a ≤ -281474976710656 ∨ 281474976710656 ≤ a) (w : World) :
    Calls Try.prog 22 #[.int .i64 a] w fun e w' => e = .returned (.bool false) ∧ w = w' := by
  rcases h with h | h
  · have h1 : decide (-281474976710655 ≤ a) = false := by simp; omega
    go_enter Try.func22, Try.ntmps22
    go_wp2
    go_ret
    exact ⟨rfl, rfl⟩
  · have h1 : -281474976710655 ≤ a := by omega
    have h2 : decide (a ≤ 281474976710655) = false := by simp; omega
    go_enter Try.func22, Try.ntmps22
    go_wp2
    go_ret
    exact ⟨rfl, rfl⟩

set_option maxHeartbeats 400000 in
theorem radd_any (a b : Int) (w : World) :
    Calls Try.prog 10 #[.int .i64 a, .int .i64 b] w fun e w' => e = .returned (addV a b) ∧ w = w' := by
  by_cases ha : -281474976710656 < a ∧ a < 281474976710656
  · by_cases hb : -281474976710656 < b ∧ b < 281474976710656
    · by_cases hs : -281474976710656 < a + b ∧ a + b < 281474976710656
      · rw [addV_yes ⟨ha.1, ha.2, hb.1, hb.2, hs.1, hs.2⟩]
        obtain ⟨h1, h2⟩ := ha
        obtain ⟨h3, h4⟩ := hb
        obtain ⟨h5, h6⟩ := hs
        go_enter Try.func10, Try.ntmps10
        go_wp2_with fail
        refine (rmay_yes _ (by omega) (by omega) _).mono ?_; rintro e w' ⟨rfl, rfl⟩
        go_wp2_with fail
        refine (rmay_yes _ (by omega) (by omega) _).mono ?_; rintro e w' ⟨rfl, rfl⟩
        go_wp2_with fail
        refine (rmay_yes _ (by omega) (by omega) _).mono ?_; rintro e w' ⟨rfl, rfl⟩
        go_wp2_with fail
        go_ret2
        exact ⟨rfl, rfl⟩
      · rw [addV_no (by unfold sumFits; omega)]
        obtain ⟨h1, h2⟩ := ha
        obtain ⟨h3, h4⟩ := hb
        have h5 : a + b ≤ -281474976710656 ∨ 281474976710656 ≤ a + b := by omega
        clear hs
        go_enter Try.func10, Try.ntmps10
        go_wp2_with fail
        refine (rmay_yes _ (by omega) (by omega) _).mono ?_; rintro e w' ⟨rfl, rfl⟩
        go_wp2_with fail
        refine (rmay_yes _ (by omega) (by omega) _).mono ?_; rintro e w' ⟨rfl, rfl⟩
        go_wp2_with fail
        refine (rmay_no _ h5 _).mono ?_; rintro e w' ⟨rfl, rfl⟩
        go_wp2_with fail
        go_ret2
        exact ⟨rfl, rfl⟩
    · rw [addV_no (by unfold sumFits; omega)]
      obtain ⟨h1, h2⟩ := ha
      have h5 : b ≤ -281474976710656 ∨ 281474976710656 ≤ b := by omega
      clear hb
      go_enter Try.func10, Try.ntmps10
      go_wp2_with fail
      refine (rmay_yes _ (by omega) (by omega) _).mono ?_; rintro e w' ⟨rfl, rfl⟩
      go_wp2_with fail
      refine (rmay_no _ h5 _).mono ?_; rintro e w' ⟨rfl, rfl⟩
      go_wp2_with fail
      go_ret2
      exact ⟨rfl, rfl⟩
  · rw [addV_no (by unfold sumFits; omega)]
    have h5 : a ≤ -281474976710656 ∨ 281474976710656 ≤ a := by omega
    clear ha
    go_enter Try.func10, Try.ntmps10
    go_wp2_with fail
    refine (rmay_no _ h5 _).mono ?_; rintro e w' ⟨rfl, rfl⟩
    go_wp2_with fail
    go_ret2
    exact ⟨rfl, rfl⟩

set_option maxHeartbeats 400000 in
theorem rsub_any (a b : Int) (w : World) :
    Calls Try.prog 12 #[.int .i64 a, .int .i64 b] w fun e w' => e = .returned (subV a b) ∧ w = w' := by
  by_cases ha : -281474976710656 < a ∧ a < 281474976710656
  · by_cases hb : -281474976710656 < b ∧ b < 281474976710656
    · by_cases hs : -281474976710656 < a - b ∧ a - b < 281474976710656
      · rw [subV_yes ⟨ha.1, ha.2, hb.1, hb.2, hs.1, hs.2⟩]
        obtain ⟨h1, h2⟩ := ha
        obtain ⟨h3, h4⟩ := hb
        obtain ⟨h5, h6⟩ := hs
        go_enter Try.func12, Try.ntmps12
        go_wp2_with fail
        refine (rmay_yes _ (by omega) (by omega) _).mono ?_; rintro e w' ⟨rfl, rfl⟩
        go_wp2_with fail
        refine (rmay_yes _ (by omega) (by omega) _).mono ?_; rintro e w' ⟨rfl, rfl⟩
        go_wp2_with fail
        refine (rmay_yes _ (by omega) (by omega) _).mono ?_; rintro e w' ⟨rfl, rfl⟩
        go_wp2_with fail
        go_ret2
        exact ⟨rfl, rfl⟩
      · rw [subV_no (by unfold diffFits; omega)]
        obtain ⟨h1, h2⟩ := ha
        obtain ⟨h3, h4⟩ := hb
        have h5 : a - b ≤ -281474976710656 ∨ 281474976710656 ≤ a - b := by omega
        clear hs
        go_enter Try.func12, Try.ntmps12
        go_wp2_with fail
        refine (rmay_yes _ (by omega) (by omega) _).mono ?_; rintro e w' ⟨rfl, rfl⟩
        go_wp2_with fail
        refine (rmay_yes _ (by omega) (by omega) _).mono ?_; rintro e w' ⟨rfl, rfl⟩
        go_wp2_with fail
        refine (rmay_no _ h5 _).mono ?_; rintro e w' ⟨rfl, rfl⟩
        go_wp2_with fail
        go_ret2
        exact ⟨rfl, rfl⟩
    · rw [subV_no (by unfold diffFits; omega)]
      obtain ⟨h1, h2⟩ := ha
      have h5 : b ≤ -281474976710656 ∨ 281474976710656 ≤ b := by omega
      clear hb
      go_enter Try.func12, Try.ntmps12
      go_wp2_with fail
      refine (rmay_yes _ (by omega) (by omega) _).mono ?_; rintro e w' ⟨rfl, rfl⟩
      go_wp2_with fail
      refine (rmay_no _ h5 _).mono ?_; rintro e w' ⟨rfl, rfl⟩
      go_wp2_with fail
      go_ret2
      exact ⟨rfl, rfl⟩
  · rw [subV_no (by unfold diffFits; omega)]
    have h5 : a ≤ -281474976710656 ∨ 281474976710656 ≤ a := by omega
    clear ha
    go_enter Try.func12, Try.ntmps12
    go_wp2_with fail
    refine (rmay_no _ h5 _).mono ?_; rintro e w' ⟨rfl, rfl⟩
    go_wp2_with fail
    go_ret2
    exact ⟨rfl, rfl⟩

/-! The example that each statement begins with. -/
set_option maxHeartbeats 400000 in
theorem speaks_any (w : World) :
    Calls Try.prog 8 #[] w fun e w' => e = .returned (.bool true) ∧ w = w' := by
  go_enter Try.func8, Try.ntmps8
  go_wp2_with fail
  refine (add_no _ _ (by unfold sumFits; omega) _).mono ?_; rintro e w' ⟨rfl, rfl⟩
  go_wp2_with fail
  refine (add_yes _ _ (by omega) (by omega) (by omega) (by omega) (by omega) (by omega) _).mono ?_; rintro e w' ⟨rfl, rfl⟩
  go_wp2_with fail
  go_ret
  exact ⟨rfl, rfl⟩

end Go.Proofs.Ytceanfocgdnnaaa
