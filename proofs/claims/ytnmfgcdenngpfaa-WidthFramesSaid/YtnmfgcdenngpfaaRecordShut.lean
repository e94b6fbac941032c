/- The contracts of the closures that Check's rules hold. -/
import Derived.Test.YtnmfgcdenngpfaaRecordBox
namespace Go.Proofs.Ytnmfgcdenngpfaa.Record
open Go.RowKit Go.Sort

set_option maxHeartbeats 400000 in
theorem r1_is (g : Nat) (b : Bx) (w : World) (ha : At w g b) (v : Bool) (hv : beyB b.k 1 5 = v) :
    Calls Try.prog 48 #[.pointer (some ⟨g, 0, none⟩)] w fun e w' => e = .returned (.bool v) ∧ Below w.heap.size w w' := by
  obtain ⟨c0, c1, c2, c3, c4, c5, -⟩ := ha
  have HV := Lib.hid hv
  clear hv
  go_enter Try.func48, Try.ntmps48
  go_wp2_with fail
  refine (beyond_is _ _ _ _ HV.out _).mono ?_; rintro e w' ⟨rfl, rfl⟩
  go_wp2_with fail
  go_ret
  exact ⟨rfl, Below.refl _ _⟩

set_option maxHeartbeats 400000 in
theorem r8_is (g : Nat) (b : Bx) (w : World) (ha : At w g b) (v : Bool) (hv : beyB b.d 0 256 = v) :
    Calls Try.prog 61 #[.pointer (some ⟨g, 0, none⟩)] w fun e w' => e = .returned (.bool v) ∧ Below w.heap.size w w' := by
  obtain ⟨c0, c1, c2, c3, c4, c5, -⟩ := ha
  have HV := Lib.hid hv
  clear hv
  go_enter Try.func61, Try.ntmps61
  go_wp2_with fail
  refine (beyond_is _ _ _ _ HV.out _).mono ?_; rintro e w' ⟨rfl, rfl⟩
  go_wp2_with fail
  go_ret
  exact ⟨rfl, Below.refl _ _⟩

set_option maxHeartbeats 400000 in
theorem r3_is (g : Nat) (b : Bx) (w : World) (ha : At w g b) (v : Bool) (hv : sideB b.k b.s = v) :
    Calls Try.prog 52 #[.pointer (some ⟨g, 0, none⟩)] w fun e w' => e = .returned (.bool (!v)) ∧ Below w.heap.size w w' := by
  obtain ⟨c0, c1, c2, c3, c4, c5, -⟩ := ha
  have HV := Lib.hid hv
  clear hv
  go_enter Try.func52, Try.ntmps52
  go_wp2_with fail
  refine (side_is _ _ _ HV.out _).mono ?_; rintro e w' ⟨rfl, rfl⟩
  go_wp2_with fail
  go_ret
  exact ⟨rfl, Below.refl _ _⟩

set_option maxHeartbeats 400000 in
theorem r4_is (g a : Nat) (b : Bx) (w : World) (ha : At w g b) (u : Bool) (hb : w.cell? ⟨a, 0, none⟩ = some (.bool u)) (v : Bool) (hv : beyB b.c 0 3 = v) :
    Calls Try.prog 54 #[.pointer (some ⟨g, 0, none⟩), .pointer (some ⟨a, 0, none⟩)] w fun e w' => e = .returned (.bool (v || (u && !(b.c == 0)))) ∧ Below w.heap.size w w' := by
  obtain ⟨c0, c1, c2, c3, c4, c5, -⟩ := ha
  have HV := Lib.hid hv
  clear hv
  cases v <;> cases u
  all_goals
    go_enter Try.func54, Try.ntmps54
    go_wp2_with fail
    refine (beyond_is _ _ _ _ HV.out _).mono ?_; rintro e w' ⟨rfl, rfl⟩
    go_wp2_with fail
    all_goals (go_ret; exact ⟨by simp [bne], Below.refl _ _⟩)

set_option maxHeartbeats 400000 in
theorem r5_is (g : Nat) (b : Bx) (w : World) (ha : At w g b) (x y : Int) (hx : leastW b.k = x) (hy : leastH b.k = y) (v : Bool) (hv : (decide (b.w < x) || decide (b.h < y)) = v) :
    Calls Try.prog 55 #[.pointer (some ⟨g, 0, none⟩)] w fun e w' => e = .returned (.bool v) ∧ Below w.heap.size w w' := by
  obtain ⟨c0, c1, c2, c3, c4, c5, -⟩ := ha
  have HX := Lib.hid hx
  have HY := Lib.hid hy
  have HV := Lib.hid hv
  clear hx hy hv
  obtain ⟨z, hz⟩ : ∃ z : Bool, decide (b.w < x) = z := ⟨_, rfl⟩
  have HZ := Lib.hid hz
  replace c0 := fun d os => cell_regrown c0 (d := d) (os := os)
  replace c1 := fun d os => cell_regrown c1 (d := d) (os := os)
  replace c4 := fun d os => cell_regrown c4 (d := d) (os := os)
  replace c5 := fun d os => cell_regrown c5 (d := d) (os := os)
  clear c2 c3
  cases z
  all_goals
    go_enter Try.func55, Try.ntmps55
    go_wp2_with fail
    refine wp_region_quiet_below (by kernel_rfl) (by kernel_rfl) ?_
    repeat (quiet_step (first
      | (go_at_call 56; exact Calls.regrown_of (calls_same_below (leastW_is _ _ HX.out _)))
      | (go_at_call 57; exact Calls.regrown_of (calls_same_below (leastH_is _ _ HY.out _)))))
    refine wpQuiet_nil ?_
    intro _ hw'
    obtain ⟨⟨dq4, os4⟩, hw''⟩ := hw'
    subst hw''
    go_wp2_with fail
    go_ret
    exact ⟨ret_bool (by rw [← HV.out, HZ.out]; simp), below_regrown _ _ _⟩

end Go.Proofs.Ytnmfgcdenngpfaa.Record
