/-
  For every two numbers, the law UnitLaws answers true: what Add adds Sub takes away again, a sum hangs on no order of its two numbers, and of numbers below a quarter of Most nothing goes over; no condition.
-/
import Derived.Test.YtceanfocgdnnaaaSub
import Derived.ProofKit
import Derived.OpenShut
namespace Go.Proofs.Ytceanfocgdnnaaa.unitLaws
open Go.ChangeShapes Go.WideShapes Go.ChangeAt Go.RowKit
set_option linter.unusedVariables false      -- a walk need not use every 'w<i>' (that an integer argument fits its kind)

theorem own : ownKnob Try.prog.godebug = none := by kernel_rfl

theorem tmod_bd (a : Int) : -70368744177664 < a.tmod 70368744177664 ∧ a.tmod 70368744177664 < 70368744177664 := by
  have h1 := Int.tmod_lt_of_pos a (show (0 : Int) < 70368744177664 by omega)
  have h2 := Int.tmod_lt_of_pos (-a) (show (0 : Int) < 70368744177664 by omega)
  rw [Int.neg_tmod] at h2
  omega

theorem add_at (a b s : Int) (h : sumFits a b) (hs : a + b = s) (w : World) :
    Calls Try.prog 9 #[.int .i64 a, .int .i64 b] w fun e w' => e = .returned (.tuple #[.int .i64 s, .bool true]) ∧ w = w' := by
  subst hs; rw [← addV_yes h]; exact add_any a b w

theorem sub_at (a b s : Int) (h : diffFits a b) (hs : a - b = s) (w : World) :
    Calls Try.prog 11 #[.int .i64 a, .int .i64 b] w fun e w' => e = .returned (.tuple #[.int .i64 s, .bool true]) ∧ w = w' := by
  subst hs; exact sub_yes a b h w

set_option maxHeartbeats 400000 in
theorem walk (a0 : Int) (a1 : Int) (w0 : (Lit.int .i64 a0).wf = true) (w1 : (Lit.int .i64 a1).wf = true) (w : World) :
    Calls Try.prog 6 #[.int .i64 a0, .int .i64 a1] w fun e w' => e = .returned (.bool true) ∧ Grown w w' := by
  clear w0 w1
  obtain ⟨t1, t2⟩ := tmod_bd a0
  obtain ⟨t3, t4⟩ := tmod_bd a1
  by_cases h : sumFits a0 a1
  · have h' : sumFits a1 a0 := by unfold sumFits at *; omega
    have hd : diffFits (a0 + a1) a1 := by unfold sumFits at h; unfold diffFits; omega
    have hb : (a0 != a0) = false := by simp
    obtain ⟨s, hs⟩ : ∃ s, s = a0 + a1 := ⟨_, rfl⟩
    have hq : (s != a0 + a1) = false := by simp [hs]
    have h1 : -281474976710656 < a0 + a1 ∧ a0 + a1 < 281474976710656 := ⟨h.2.2.2.2.1, h.2.2.2.2.2⟩
    obtain ⟨h1, h2⟩ := h1
    rw [← hs] at hd
    have HS := Lib.hid hs; clear hs
    go_enter Try.func6, Try.ntmps6
    go_wp2_with fail
    refine (speaks_any _).mono ?_; rintro e w' ⟨rfl, rfl⟩
    go_wp2_with fail
    refine (add_at _ _ s h HS.out.symm _).mono ?_; rintro e w' ⟨rfl, rfl⟩
    go_wp2_with fail
    refine (add_at _ _ s h' (by rw [HS.out]; exact Int.add_comm _ _) _).mono ?_; rintro e w' ⟨rfl, rfl⟩
    go_wp2_with fail
    refine (sub_at _ _ a0 hd (by rw [HS.out]; omega) _).mono ?_; rintro e w' ⟨rfl, rfl⟩
    go_wp2_with fail
    refine (add_yes _ _ (by omega) (by omega) (by omega) (by omega) (by omega) (by omega) _).mono ?_; rintro e w' ⟨rfl, rfl⟩
    go_wp2_with fail
    refine (sub_yes _ _ (by unfold diffFits; omega) _).mono ?_; rintro e w' ⟨rfl, rfl⟩
    go_wp2_with fail
    go_ret
    exact ⟨rfl, by repeat (first | exact Grown.refl _ | apply Grown.drew | apply Grown.alloc)⟩
  · have h' : ¬ sumFits a1 a0 := by unfold sumFits at *; omega
    go_enter Try.func6, Try.ntmps6
    go_wp2_with fail
    refine (speaks_any _).mono ?_; rintro e w' ⟨rfl, rfl⟩
    go_wp2_with fail
    refine (add_any _ _ _).mono ?_; rw [addV_no h]; rintro e w' ⟨rfl, rfl⟩
    go_wp2_with fail
    refine (add_any _ _ _).mono ?_; rw [addV_no h']; rintro e w' ⟨rfl, rfl⟩
    go_wp2_with fail
    refine (add_yes _ _ (by omega) (by omega) (by omega) (by omega) (by omega) (by omega) _).mono ?_; rintro e w' ⟨rfl, rfl⟩
    go_wp2_with fail
    refine (sub_yes _ _ (by unfold diffFits; omega) _).mono ?_; rintro e w' ⟨rfl, rfl⟩
    go_wp2_with fail
    go_ret
    exact ⟨rfl, by repeat (first | exact Grown.refl _ | apply Grown.drew | apply Grown.alloc)⟩

/-! ### THE ROW's STEP: WRITTEN OUT: LEAVE IT -/
set_option maxRecDepth 100000 in
theorem lifted (os : Os) (started : os.Started) (H : Type) (enc : TypeId × Value → H) :
    ReturnsInHanded {} Try.checked os 6 .any (Rows.unitLawsSpec.pre6 enc Try.prog Try.f6 Rows.unitLawsRow.domain false) (Rows.unitLawsSpec.post enc Try.prog Try.f6 false true false false) := by
  refine returnsInHanded_of_change (C := Try.checked) own started (by kernel_rfl) Try.func6
    (ChangeSpec.witness6 (enc := enc) (C := Try.checked) false ⟨#[], #[.int .i64 0, .int .i64 0], []⟩ 8 (by kernel_rfl) (by kernel_rfl) (by kernel_rfl) (by kernel_rfl)) ?_
  intro W base args ds gs before hval0 hW hcnd _
  have hval : ∀ (j : Nat) t v, Try.f6.params[j]? = some t → args[j]? = some v → Value.okWide Try.prog W .any base t v := hval0
  have hW' := hW
  obtain ⟨p, q, hA0, hV, rfl, hfz, hnd⟩ := hW
  have hA : DataW.TrodAll enc Try.prog W 0 (fun _ => true) true Try.f6.params.toList args.toList ds p := hA0
  rw [Try.params6] at hA hval
  obtain ⟨v0, vs0, d0, ds0, p0, q0, hargs, rfl, rfl, h0, r0⟩ := trodAll_cons hA
  obtain ⟨v1, vs1, d1, ds1, p1, q1, rfl, rfl, rfl, h1, r1⟩ := trodAll_cons r0
  obtain ⟨rfl, rfl, rfl⟩ := trodAll_nil r1
  obtain rfl : args = #[v0, v1] := by cases args; simp_all
  obtain ⟨rfl, rfl⟩ := trodVars_none hV
  obtain ⟨a0, rfl, rfl, rfl, w0⟩ := open_int Try.underlying3 (hval 0 3 v0 rfl rfl) h0
  obtain ⟨a1, rfl, rfl, rfl, w1⟩ := open_int Try.underlying3 (hval 1 3 v1 rfl rfl) h1
  clear hA0 hval0
  simp only [List.append_nil] at hW'
  refine (walk a0 a1 w0 w1 W).mono fun e W' ⟨he, hg⟩ => ?_
  subst he
  exact ⟨_, rfl, post_of_same (pa := []) (pv := []) hW' (fun _ _ _ => (trodAll_cons_mk (shut_bool Try.underlying4 _) trodAll_mk0)) (fun sp _ => (trodAll_cons_mk (shut_int Try.underlying3 w0) (trodAll_cons_mk (shut_int Try.underlying3 w1) trodAll_mk0))) (fun _ _ => rfl) rfl
    (hg.frame _) hg.2.1 (ok_one (by kernel_rfl) rfl (okWide_bool_mk Try.underlying4 _))⟩

theorem over : Rows.unitLawsRow.holds Try.pinned (OpenSpec.ofChange Rows.unitLawsSpec) :=
  OpenClaim.holds_of_wide 6 Try.f6 rfl rfl rfl rfl rfl rfl rfl ⟨rfl, rfl, rfl, rfl, rfl⟩ rfl rfl rfl rfl rfl (by kernel_rfl) Try.func6 (by kernel_rfl)
    (of_decide_eq_true (by kernel_rfl)) (by unfold Func.isWrapper; first | (rw [if_pos (by decide +kernel)]; kernel_rfl) | (rw [if_neg (by decide +kernel)]; exact ⟨rfl, rfl⟩))
    (fun os started H enc _ => lifted os started H enc)

/-- ████ THE STATEMENT ████ -/
theorem proved : Rows.UnitLawsSaid :=
  over
#print axioms proved
end Go.Proofs.Ytceanfocgdnnaaa.unitLaws
