/- Texts of this proof that follow each other, in one file. -/
import Derived.Test.YtflncnfagoekcaaPart2
import Derived.Test.YtflncnfagoekcaaPart1
import Derived.Test.YtflncnfagoekcaaPart23
import Derived.Test.YtflncnfagoekcaaPart14
import Derived.Test.YtflncnfagoekcaaPart13
import Derived.Test.YtflncnfagoekcaaPart19
import Derived.Test.YtflncnfagoekcaaPart11
import Derived.Test.YtflncnfagoekcaaPart9
import Derived.Test.YtflncnfagoekcaaRows
/-! The contract of the document's Same, of lists that are the same. -/
namespace Go.Proofs.Ytflncnfagoekcaa.Tree
open Go.RowKit Go.Sort Go.Proofs.Ytflncnfagoekcaa.Record Go.Proofs.Ytflncnfagoekcaa.Script

set_option maxHeartbeats 1000000 in
theorem same_yes (A : Option Addr) (n c : Nat) (A2 : Option Addr) (c2 : Nat) (xs : List Int) (w : World) (hn : n = xs.length) (hlen : n ≤ 9223372036854775807) (hx : Nums w w.heap.size A xs) (hy : Nums w w.heap.size A2 xs) :
    Calls Try.prog 15 #[.slice A n c, .slice A2 n c2] w fun e w' => e = .returned (.bool true) ∧ Below w.heap.size w w' := by
  have HX := Lib.hid hx
  have HY := Lib.hid hy
  have HN := Lib.hid hn
  clear hx hy hn
  go_enter Try.func15, Try.ntmps15
  go_wp2_with fail
  go_loopw [5] (fun i wr => ∃ k : Nat, k ≤ n ∧ i = .int .i64 k ∧ Hid (Below w.heap.size w wr)) (fun i _ => n - (intOf i).toNat)
  case atStart => exact ⟨0, Nat.zero_le _, rfl, Lib.hid (Below.refl _ _)⟩
  case round wr =>
    obtain ⟨k, hk, rfl, H⟩ := hrel
    by_cases hlt : k < n
    · obtain ⟨ad, hA, _, hcx⟩ := (HX.out.below H.out) k (by rw [← HN.out]; exact hlt)
      obtain ⟨ad2, hA2, _, hcy⟩ := (HY.out.below H.out) k (by rw [← HN.out]; exact hlt)
      subst hA hA2
      generalize xs.getD k 0 = y at hcx hcy
      have kx := fun d os => cell_regrown hcx (d := d) (os := os)
      have ky := fun d os => cell_regrown hcy (d := d) (os := os)
      clear hcx hcy
      go_wp2_with fail
      refine wp_region_quiet_below (by kernel_rfl) (by kernel_rfl) ?_
      repeat (quiet_step (fail))
      refine wpQuiet_nil ?_
      intro _ hw'
      obtain ⟨⟨dq, os⟩, hw''⟩ := hw'
      subst hw''
      clear kx ky
      have q := below_regrown wr dq os
      generalize grow (redrawn wr dq) os = w4 at q ⊢
      have HQ := Lib.hid (thru H.out q)
      clear q
      go_wp2_with fail
      go_roundw
      case rel => exact ⟨k + 1, by omega, by go_num, HQ⟩
      case measure => simp [intOf]; omega
    · obtain rfl : k = n := by omega
      go_wp2_with fail
      go_ret
      exact ⟨rfl, H.out⟩

end Go.Proofs.Ytflncnfagoekcaa.Tree

/-! What the laws of the walk share. -/
namespace Go.Proofs.Ytflncnfagoekcaa
end Go.Proofs.Ytflncnfagoekcaa
