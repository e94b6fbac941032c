/- The walk of RecordChecks. -/
import Derived.Test.YtkklepionbppdaaRef
import Derived.Test.YtkklepionbppdaaFits
namespace Go.Proofs.Ytkklepionbppdaa
open Go.RowKit Go.Sort

set_option maxHeartbeats 1000000 in
theorem checks_all (b : Bx) (w : World) :
    Calls Try.prog 3 #[b.v] w fun e w' => e = .returned (.bool true) ∧ Below w.heap.size w w' := by
  obtain ⟨v, hv⟩ : ∃ v, pickN (brokenOf b) = v := ⟨_, rfl⟩
  have HV := Lib.hid hv
  clear hv
  go_enter Try.func3, Try.ntmps3
  go_upto_region 1 with fail
  generalize hW : World.alloc w _ = W
  obtain ⟨at1, k1⟩ := box_in b hW
  have KW := Lib.hid k1
  clear k1 hW
  unfold At at at1
  obtain ⟨c0, c1, c2, c3, c4, c5, c6, c7, c8, c9, c10, c11, c12, c13⟩ := at1
  replace c0 := fun d os => cell_regrown c0 (d := d) (os := os)
  replace c1 := fun d os => cell_regrown c1 (d := d) (os := os)
  replace c2 := fun d os => cell_regrown c2 (d := d) (os := os)
  replace c3 := fun d os => cell_regrown c3 (d := d) (os := os)
  replace c4 := fun d os => cell_regrown c4 (d := d) (os := os)
  replace c5 := fun d os => cell_regrown c5 (d := d) (os := os)
  replace c6 := fun d os => cell_regrown c6 (d := d) (os := os)
  replace c7 := fun d os => cell_regrown c7 (d := d) (os := os)
  replace c8 := fun d os => cell_regrown c8 (d := d) (os := os)
  replace c9 := fun d os => cell_regrown c9 (d := d) (os := os)
  replace c10 := fun d os => cell_regrown c10 (d := d) (os := os)
  replace c11 := fun d os => cell_regrown c11 (d := d) (os := os)
  replace c12 := fun d os => cell_regrown c12 (d := d) (os := os)
  replace c13 := fun d os => cell_regrown c13 (d := d) (os := os)
  refine wp_region_quiet_below (by kernel_rfl) (by kernel_rfl) ?_
  repeat (quiet_step (first
    | (go_at_call 7; with_reducible exact Calls.regrown_of (speaks_any _))
    | (go_at_call 9; exact Calls.regrown_of (of_any b _))
    | (go_at_call 8; exact Calls.regrown_of (check_is b _ HV.out _))
    | (go_at_call 10; exact Calls.regrown_of (ref_is b _ HV.out _))))
  refine wpQuiet_nil ?_
  intro _ hw'
  obtain ⟨⟨dq4, os4⟩, hw''⟩ := hw'
  subst hw''
  clear c0 c1 c2 c3 c4 c5 c6 c7 c8 c9 c10 c11 c12 c13
  go_wp2_with fail
  go_ret
  exact ⟨ret_bool (by simp), thru KW.out (below_regrown _ _ _)⟩

end Go.Proofs.Ytkklepionbppdaa
