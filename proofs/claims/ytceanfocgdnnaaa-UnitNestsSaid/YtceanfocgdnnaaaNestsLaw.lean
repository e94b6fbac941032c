/-
  For every three numbers, the law UnitNests answers true: a Try within a Try ends by itself, and what stands behind it goes on; no condition.
-/
import Derived.Test.YtceanfocgdnnaaaNests
import Derived.ProofKit
import Derived.OpenShut
namespace Go.Proofs.Ytceanfocgdnnaaa.unitNests
open Go.ChangeShapes Go.WideShapes Go.ChangeAt Go.RowKit
set_option linter.unusedVariables false      -- a walk need not use every 'w<i>' (that an integer argument fits its kind)

theorem own : ownKnob Try.prog.godebug = none := by kernel_rfl

theorem sumErr_yes {a b : Int} (h : sumFits a b) : sumErr a b = 0 := by simp [sumErr, h]
theorem sumErr_no {a b : Int} (h : ¬ sumFits a b) : sumErr a b = 13 := by simp [sumErr, h]

theorem add_zero_at (c : Int) (h : sumFits c 0) (w : World) :
    Calls Try.prog 9 #[.int .i64 c, .int .i64 0] w fun e w' => e = .returned (.tuple #[.int .i64 c, .bool true]) ∧ w = w' := by
  have := add_any c 0 w
  rwa [addV_yes h, Int.add_zero] at this

set_option maxRecDepth 100000 in
set_option maxHeartbeats 1600000 in
theorem walk (a0 : Int) (a1 : Int) (a2 : Int) (w0 : (Lit.int .i64 a0).wf = true) (w1 : (Lit.int .i64 a1).wf = true) (w2 : (Lit.int .i64 a2).wf = true) (w : World) :
    Calls Try.prog 5 #[.int .i64 a0, .int .i64 a1, .int .i64 a2] w fun e w' => e = .returned (.bool true) ∧ Kp w.heap.size w w' := by
  clear w0 w1 w2
  have hmf : ∀ (fn : Fn) (first cap : Array Value) (w : World), (Instr.makeFunc fn first cap).run Try.prog w = .ok (.func fn first cap) w := fun _ _ _ _ => rfl
  go_enter Try.func5, Try.ntmps5
  go_wp2_with fail
  refine (speaks_any _).mono ?_; rintro e w' ⟨rfl, rfl⟩
  go_wp2_with fail
  have K0 : Kp w.heap.size w (((((w.alloc (.cells #[.int .i64 a0] 3)).alloc (.cells #[.int .i64 a1] 3)).alloc (.cells #[.int .i64 a2] 3)).alloc (.cells #[.int .i64 0] 29)).alloc (.cells #[.int .i64 0] 3)) :=
    ((((((Kp.refl _ _).alloc (Nat.le_refl _) _ _).alloc (by simp) _ _).alloc (by simp; omega) _ _).alloc (by simp; omega) _ _).alloc (by simp; omega) _ _)
  refine (outer_try w.heap.size (w.heap.size + 1) (w.heap.size + 1 + 1) (w.heap.size + 1 + 1 + 1) (w.heap.size + 1 + 1 + 1 + 1) a0 a1 a2 0 0 _ ?_ ?_ ?_ ?_ ?_ ?_ ?_ (by omega) (by omega)).mono ?_
  all_goals try (simp [go_sem]; done)
  rintro e w1 ⟨rfl, hk, hi, z, ho, hz⟩
  have ca : w1.cell? ⟨w.heap.size, 0, none⟩ = some (.int .i64 a0) := by rw [hk.cell _ _ (by omega)]; simp [go_sem]
  have cb : w1.cell? ⟨w.heap.size + 1, 0, none⟩ = some (.int .i64 a1) := by rw [hk.cell _ _ (by omega)]; simp [go_sem]
  have cc : w1.cell? ⟨w.heap.size + 1 + 1, 0, none⟩ = some (.int .i64 a2) := by rw [hk.cell _ _ (by omega)]; simp [go_sem]
  have K1 := Lib.hid (K0.trans (hk.mono (by omega)))
  clear K0 hk
  by_cases h1 : sumFits a0 a1 <;> by_cases h2 : sumFits a2 0
  · obtain rfl := hz h2
    rw [sumErr_yes h1] at hi
    rw [sumErr_yes h2]
    clear hz
    go_wp2_with fail
    refine (add_any _ _ _).mono ?_; rw [addV_yes h1]; rintro e w' ⟨rfl, rfl⟩
    go_wp2_with fail
    refine (add_zero_at _ h2 _).mono ?_; rintro e w' ⟨rfl, rfl⟩
    go_wp2_with fail
    go_ret
    exact ⟨rfl, K1.out⟩
  · rw [sumErr_yes h1] at hi
    rw [sumErr_no h2]
    clear hz
    go_wp2_with fail
    refine (add_any _ _ _).mono ?_; rw [addV_yes h1]; rintro e w' ⟨rfl, rfl⟩
    go_wp2_with fail
    refine (add_any _ _ _).mono ?_; rw [addV_no h2]; rintro e w' ⟨rfl, rfl⟩
    go_wp2_with fail
    go_ret
    exact ⟨rfl, K1.out⟩
  · obtain rfl := hz h2
    rw [sumErr_no h1] at hi
    rw [sumErr_yes h2]
    clear hz
    go_wp2_with fail
    refine (add_any _ _ _).mono ?_; rw [addV_no h1]; rintro e w' ⟨rfl, rfl⟩
    go_wp2_with fail
    refine (add_zero_at _ h2 _).mono ?_; rintro e w' ⟨rfl, rfl⟩
    go_wp2_with fail
    go_ret
    exact ⟨rfl, K1.out⟩
  · rw [sumErr_no h1] at hi
    rw [sumErr_no h2]
    clear hz
    go_wp2_with fail
    refine (add_any _ _ _).mono ?_; rw [addV_no h1]; rintro e w' ⟨rfl, rfl⟩
    go_wp2_with fail
    refine (add_any _ _ _).mono ?_; rw [addV_no h2]; rintro e w' ⟨rfl, rfl⟩
    go_wp2_with fail
    go_ret
    exact ⟨rfl, K1.out⟩

/-! ### THE ROW's STEP: WRITTEN OUT: LEAVE IT -/
set_option maxRecDepth 100000 in
theorem lifted (os : Os) (started : os.Started) (H : Type) (enc : TypeId × Value → H) :
    ReturnsInHanded {} Try.checked os 5 .any (Rows.unitNestsSpec.pre6 enc Try.prog Try.f5 Rows.unitNestsRow.domain false) (Rows.unitNestsSpec.post enc Try.prog Try.f5 false true false false) := by
  refine returnsInHanded_of_change (C := Try.checked) own started (by kernel_rfl) Try.func5
    (ChangeSpec.witness6 (enc := enc) (C := Try.checked) false ⟨#[], #[.int .i64 0, .int .i64 0, .int .i64 0], []⟩ 8 (by kernel_rfl) (by kernel_rfl) (by kernel_rfl) (by kernel_rfl)) ?_
  intro W base args ds gs before hval0 hW hcnd _
  have hval : ∀ (j : Nat) t v, Try.f5.params[j]? = some t → args[j]? = some v → Value.okWide Try.prog W .any base t v := hval0
  have hW' := hW
  obtain ⟨p, q, hA0, hV, rfl, hfz, hnd⟩ := hW
  have hA : DataW.TrodAll enc Try.prog W 0 (fun _ => true) true Try.f5.params.toList args.toList ds p := hA0
  rw [Try.params5] at hA hval
  obtain ⟨v0, vs0, d0, ds0, p0, q0, hargs, rfl, rfl, h0, r0⟩ := trodAll_cons hA
  obtain ⟨v1, vs1, d1, ds1, p1, q1, rfl, rfl, rfl, h1, r1⟩ := trodAll_cons r0
  obtain ⟨v2, vs2, d2, ds2, p2, q2, rfl, rfl, rfl, h2, r2⟩ := trodAll_cons r1
  obtain ⟨rfl, rfl, rfl⟩ := trodAll_nil r2
  obtain rfl : args = #[v0, v1, v2] := by cases args; simp_all
  obtain ⟨rfl, rfl⟩ := trodVars_none hV
  obtain ⟨a0, rfl, rfl, rfl, w0⟩ := open_int Try.underlying3 (hval 0 3 v0 rfl rfl) h0
  obtain ⟨a1, rfl, rfl, rfl, w1⟩ := open_int Try.underlying3 (hval 1 3 v1 rfl rfl) h1
  obtain ⟨a2, rfl, rfl, rfl, w2⟩ := open_int Try.underlying3 (hval 2 3 v2 rfl rfl) h2
  clear hA0 hval0
  simp only [List.append_nil] at hW'
  refine (walk a0 a1 a2 w0 w1 w2 W).mono fun e W' ⟨he, hg⟩ => ?_
  subst he
  exact ⟨_, rfl, post_of_same (pa := []) (pv := []) hW' (fun _ _ _ => (trodAll_cons_mk (shut_bool Try.underlying4 _) trodAll_mk0)) (fun sp _ => (trodAll_cons_mk (shut_int Try.underlying3 w0) (trodAll_cons_mk (shut_int Try.underlying3 w1) (trodAll_cons_mk (shut_int Try.underlying3 w2) trodAll_mk0)))) (fun _ _ => rfl) rfl
    (hg.1.frame _) hg.2 (ok_one (by kernel_rfl) rfl (okWide_bool_mk Try.underlying4 _))⟩

theorem over : Rows.unitNestsRow.holds Try.pinned (OpenSpec.ofChange Rows.unitNestsSpec) :=
  OpenClaim.holds_of_wide 5 Try.f5 rfl rfl rfl rfl rfl rfl rfl ⟨rfl, rfl, rfl, rfl, rfl⟩ rfl rfl rfl rfl rfl (by kernel_rfl) Try.func5 (by kernel_rfl)
    (of_decide_eq_true (by kernel_rfl)) (by unfold Func.isWrapper; first | (rw [if_pos (by decide +kernel)]; kernel_rfl) | (rw [if_neg (by decide +kernel)]; exact ⟨rfl, rfl⟩))
    (fun os started H enc _ => lifted os started H enc)

/-- ████ THE STATEMENT ████ -/
theorem proved : Rows.UnitNestsSaid :=
  over
#print axioms proved
end Go.Proofs.Ytceanfocgdnnaaa.unitNests
