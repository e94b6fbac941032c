/- The contracts of unit's reckoning and of the document's reckoning. -/
import Derived.Test.YtceanfocgdnnaaaRows
import Derived.WalkKit
import Derived.WalkSpells
import Derived.WalkLawsBesides
import Derived.BigQuiet
import Derived.Lib.Hide
namespace Go.Proofs.Ytceanfocgdnnaaa
open Go.RowKit

set_option maxHeartbeats 400000 in
theorem may_yes (a : Int) (h1 : -281474976710656 < a) (h2 : a < 281474976710656) (w : World) :
    Calls Try.prog 21 #[.int .i64 a] w fun e w' => e = .returned (.bool true) ∧ w = w' := by
  go_enter Try.func21, Try.ntmps21
  go_wp2
  go_ret
  exact ⟨rfl, rfl⟩

set_option maxHeartbeats 400000 in
theorem may_no (a : Int) (h : a ≤ -281474976710656 ∨ 281474976710656 ≤ a) (w : World) :
    Calls Try.prog 21 #[.int .i64 a] w fun e w' => e = .returned (.bool false) ∧ w = w' := by
  rcases h with h | h
  · have h1 : decide (-281474976710656 < a) = false := by simp; omega
    go_enter Try.func21, Try.ntmps21
    go_wp2
    go_ret
    exact ⟨rfl, rfl⟩
  · have h1 : -281474976710656 < a := by omega
    have h2 : decide (a < 281474976710656) = false := by simp; omega
    go_enter Try.func21, Try.ntmps21
    go_wp2
    go_ret
    exact ⟨rfl, rfl⟩

set_option maxHeartbeats 400000 in
theorem add_yes (a b : Int) (h1 : -281474976710656 < a) (h2 : a < 281474976710656) (h3 : -281474976710656 < b) (h4 : b < 281474976710656)
    (h5 : -281474976710656 < a + b) (h6 : a + b < 281474976710656) (w : World) :
    Calls Try.prog 9 #[.int .i64 a, .int .i64 b] w fun e w' => e = .returned (.tuple #[.int .i64 (a + b), .bool true]) ∧ w = w' := by
  go_enter Try.func9, Try.ntmps9
  go_wp2_with (first | (go_at_call 21; refine (may_yes _ (by omega) (by omega) _).mono ?_; rintro e w' ⟨rfl, rfl⟩))
  go_ret2
  exact ⟨rfl, rfl⟩

/-- May both numbers, and their sum, be? -/
def sumFits (a b : Int) : Prop := -281474976710656 < a ∧ a < 281474976710656 ∧ -281474976710656 < b ∧ b < 281474976710656 ∧ -281474976710656 < a + b ∧ a + b < 281474976710656

instance (a b : Int) : Decidable (sumFits a b) := by unfold sumFits; exact inferInstance

set_option maxHeartbeats 400000 in
theorem add_no (a b : Int) (h : ¬ sumFits a b) (w : World) :
    Calls Try.prog 9 #[.int .i64 a, .int .i64 b] w fun e w' => e = .returned (.tuple #[.int .i64 0, .bool false]) ∧ w = w' := by
  unfold sumFits at h
  by_cases ha : -281474976710656 < a ∧ a < 281474976710656
  · by_cases hb : -281474976710656 < b ∧ b < 281474976710656
    · obtain ⟨h1, h2⟩ := ha
      obtain ⟨h3, h4⟩ := hb
      have hs : a + b ≤ -281474976710656 ∨ 281474976710656 ≤ a + b := by omega
      clear h
      go_enter Try.func9, Try.ntmps9
      go_wp2_with fail
      refine (may_yes _ (by omega) (by omega) _).mono ?_; rintro e w' ⟨rfl, rfl⟩
      go_wp2_with fail
      refine (may_yes _ (by omega) (by omega) _).mono ?_; rintro e w' ⟨rfl, rfl⟩
      go_wp2_with fail
      refine (may_no _ hs _).mono ?_; rintro e w' ⟨rfl, rfl⟩
      go_wp2_with fail
      go_ret2
      exact ⟨rfl, rfl⟩
    · have hs : b ≤ -281474976710656 ∨ 281474976710656 ≤ b := by omega
      obtain ⟨h1, h2⟩ := ha
      clear h hb
      go_enter Try.func9, Try.ntmps9
      go_wp2_with fail
      refine (may_yes _ (by omega) (by omega) _).mono ?_; rintro e w' ⟨rfl, rfl⟩
      go_wp2_with fail
      refine (may_no _ hs _).mono ?_; rintro e w' ⟨rfl, rfl⟩
      go_wp2_with fail
      go_ret2
      exact ⟨rfl, rfl⟩
  · have hs : a ≤ -281474976710656 ∨ 281474976710656 ≤ a := by omega
    clear h ha
    go_enter Try.func9, Try.ntmps9
    go_wp2_with fail
    refine (may_no _ hs _).mono ?_; rintro e w' ⟨rfl, rfl⟩
    go_wp2_with fail
    go_ret2
    exact ⟨rfl, rfl⟩

/-- What Add answers. -/
def addV (a b : Int) : Value := .tuple #[.int .i64 (if sumFits a b then a + b else 0), .bool (decide (sumFits a b))]

theorem addV_yes {a b : Int} (h : sumFits a b) : addV a b = .tuple #[.int .i64 (a + b), .bool true] := by simp [addV, h]
theorem addV_no {a b : Int} (h : ¬ sumFits a b) : addV a b = .tuple #[.int .i64 0, .bool false] := by simp [addV, h]

theorem wrap_neg_may {b : Int} (hm : -9223372036854775808 ≤ b ∧ b ≤ 9223372036854775807) (h : b ≤ -281474976710656 ∨ 281474976710656 ≤ b) :
    wrap64 (-b) ≤ -281474976710656 ∨ 281474976710656 ≤ wrap64 (-b) := by
  have := IntKind.wrap_i64 (-b)
  unfold wrap64
  omega

end Go.Proofs.Ytceanfocgdnnaaa
