/- The document's Decode where it tells an error. -/
import Derived.Test.YtleikbpikmineaaScriptBoxes
namespace Go.Proofs.Ytleikbpikmineaa.Script
open Go.RowKit Go.Sort Go.Proofs.Ytleikbpikmineaa.Record

set_option maxHeartbeats 400000 in
theorem refdec_short (A : Option Addr) (n c : Nat) (w : World) (hn : n ≤ 9223372036854775807) (h : ¬ n % 14 = 0) :
    Calls Try.prog 15 #[.slice A n c] w fun e w' => e = .returned (.tuple #[.slice none 0 0, .int .i64 2]) ∧ w = w' := by
  have h1 : ¬ (n : Int) % 14 = 0 := by omega
  have h2 : ((n : Int) % 14 == 0) = false := by simp [h1]
  go_enter Try.func15, Try.ntmps15
  go_wp2_with fail
  go_ret2
  exact ⟨rfl, rfl⟩

set_option maxHeartbeats 400000 in
theorem refdec_many (A : Option Addr) (m c : Nat) (w : World) (hn : m * 14 ≤ 9223372036854775807) (h : 65536 < m) :
    Calls Try.prog 15 #[.slice A (m * 14) c] w fun e w' => e = .returned (.tuple #[.slice none 0 0, .int .i64 3]) ∧ w = w' := by
  go_enter Try.func15, Try.ntmps15
  go_wp2_with fail
  go_ret2
  exact ⟨rfl, rfl⟩

end Go.Proofs.Ytleikbpikmineaa.Script
