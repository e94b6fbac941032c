/- The contracts of the document's own answers of one box: how wide it is, with and without edges and margins. -/
import Derived.Test.YtnmfgcdenngpfaaWidthDSpec
namespace Go.Proofs.Ytnmfgcdenngpfaa.Width
open Go.RowKit Go.Sort Go.Proofs.Ytnmfgcdenngpfaa.Record Go.Proofs.Ytnmfgcdenngpfaa.Script Go.Proofs.Ytnmfgcdenngpfaa.Tree

def okX (x : Int) : Bool := decide (-35184372088832 ≤ x) && decide (x ≤ 35184372088832)

theorem okX_iff {x : Int} : okX x = true ↔ -35184372088832 ≤ x ∧ x ≤ 35184372088832 := by
  unfold okX; simp

theorem refsmall_is (x : Int) (v : Bool) (hv : okX x = v) (w : World) : Calls Try.prog 9 #[.int .i64 x] w fun e w' => e = .returned (.bool v) ∧ Below w.heap.size w w' := by
  unfold okX at hv
  obtain ⟨a, ha⟩ : ∃ a : Bool, decide (-35184372088832 ≤ x) = a := ⟨_, rfl⟩
  obtain ⟨b, hb⟩ : ∃ b : Bool, decide (x ≤ 35184372088832) = b := ⟨_, rfl⟩
  rw [ha, hb] at hv
  have HV := Lib.hid hv
  clear hv
  cases a
  · go_enter Try.func9, Try.ntmps9
    go_wp2_with fail
    go_ret
    exact ⟨by rw [← HV.out]; rfl, Below.refl _ _⟩
  · cases b
    all_goals
      go_enter Try.func9, Try.ntmps9
      go_wp2_with fail
      go_ret
      exact ⟨by rw [← HV.out]; rfl, Below.refl _ _⟩

set_option maxHeartbeats 1000000 in
theorem refsides_any (b : Bx) (h : Small b) (w : World) : Calls Try.prog 27 #[b.v] w fun e w' => e = .returned (.int .i64 (sideZ b)) ∧ Below w.heap.size w w' := by
  have h1 := h.m1
  have h2 := h.m3
  have h3 := h.e1
  have h4 := h.e3
  have a1 : IntKind.i64.wrap (b.m1 + b.m3) = b.m1 + b.m3 := IntWalk.i64_in _ (by omega)
  have a2 : IntKind.i64.wrap (b.m1 + b.m3 + b.e1) = b.m1 + b.m3 + b.e1 := IntWalk.i64_in _ (by omega)
  have a3 : IntKind.i64.wrap (b.m1 + b.m3 + b.e1 + b.e3) = sideZ b := IntWalk.i64_in _ (by omega)
  clear h1 h2 h3 h4 h
  go_enter Try.func27, Try.ntmps27
  go_wp2_with fail
  go_ret
  exact ⟨rfl, ba1 _ _⟩

set_option maxHeartbeats 1000000 in
theorem refcon_any (b : Bx) (h : Small b) (x : Int) (hx : -70368744177664 ≤ x ∧ x ≤ 70368744177664) (w : World) : Calls Try.prog 12 #[b.v, .int .i64 x] w fun e w' => e = .returned (.int .i64 (conZ b x)) ∧ Below w.heap.size w w' := by
  have HS := Lib.hid (fun w => refsides_any b h w)
  obtain ⟨y, hy⟩ : ∃ y, sideZ b = y := ⟨_, rfl⟩
  have hb := sideZ_bound h
  have a1 : IntKind.i64.wrap (x - y) = x - y := IntWalk.i64_in _ (by omega)
  have hv : conZ b x = if 0 ≤ b.w then b.w else if x - y < 0 then 0 else x - y := by unfold conZ; rw [hy]
  rw [hv]
  rw [hy] at HS
  clear h hx hb hy hv
  by_cases c1 : 0 ≤ b.w
  · rw [if_pos c1]
    clear HS a1
    go_enter Try.func12, Try.ntmps12
    go_wp2_with fail
    go_ret
    exact ⟨rfl, ba1 _ _⟩
  · rw [if_neg c1]
    by_cases c2 : x - y < 0
    · rw [if_pos c2]
      go_enter Try.func12, Try.ntmps12
      go_wp2_with (first
        | (go_at_call 27; refine (HS.out _).mono ?_; rintro e w1 ⟨rfl, k1⟩; have K1 := Lib.hid (thru (ba1 w _) k1); clear k1))
      go_ret
      exact ⟨rfl, K1.out⟩
    · rw [if_neg c2]
      go_enter Try.func12, Try.ntmps12
      go_upto_region 4 with (first
        | (go_at_call 27; refine (HS.out _).mono ?_; rintro e w1 ⟨rfl, k1⟩; have K1 := Lib.hid (thru (ba1 w _) k1); obtain ⟨hc, hf⟩ := bcell k1; clear k1))
      go_wp2_with (first
        | (go_at_call 27; refine (HS.out _).mono ?_; rintro e w2 ⟨rfl, k2⟩; have K2 := Lib.hid (thru K1.out k2); clear k2))
      go_ret
      exact ⟨rfl, K2.out⟩

set_option maxHeartbeats 1000000 in
theorem refbor_any (b : Bx) (h : Small b) (x : Int) (hx : -70368744177664 ≤ x ∧ x ≤ 70368744177664) (w : World) : Calls Try.prog 14 #[b.v, .int .i64 x] w fun e w' => e = .returned (.int .i64 (borZ b x)) ∧ Below w.heap.size w w' := by
  have h3 := h.e1
  have h4 := h.e3
  have a1 : IntKind.i64.wrap (x + b.e1) = x + b.e1 := IntWalk.i64_in _ (by omega)
  have a2 : IntKind.i64.wrap (x + b.e1 + b.e3) = borZ b x := IntWalk.i64_in _ (by omega)
  clear h h3 h4 hx
  go_enter Try.func14, Try.ntmps14
  go_wp2_with fail
  go_ret
  exact ⟨rfl, ba1 _ _⟩

set_option maxHeartbeats 1000000 in
theorem refmar_any (b : Bx) (h : Small b) (x : Int) (hx : -70368744177664 ≤ x ∧ x ≤ 70368744177664) (w : World) : Calls Try.prog 16 #[b.v, .int .i64 x] w fun e w' => e = .returned (.int .i64 (marZ b x)) ∧ Below w.heap.size w w' := by
  have HS := Lib.hid (fun w => refsides_any b h w)
  have hb := sideZ_bound h
  have a1 : IntKind.i64.wrap (x + sideZ b) = marZ b x := IntWalk.i64_in _ (by omega)
  clear h hx hb
  go_enter Try.func16, Try.ntmps16
  go_wp2_with (first
    | (go_at_call 27; refine (HS.out _).mono ?_; rintro e w1 ⟨rfl, k1⟩; have K1 := Lib.hid (thru (ba1 w _) k1); clear k1))
  go_ret
  exact ⟨rfl, K1.out⟩

end Go.Proofs.Ytnmfgcdenngpfaa.Width
