/- The contracts of the program's own widths of one box. -/
import Derived.Test.YtnmfgcdenngpfaaPart9
namespace Go.Proofs.Ytnmfgcdenngpfaa.Width
open Go.RowKit Go.Sort Go.Proofs.Ytnmfgcdenngpfaa.Record Go.Proofs.Ytnmfgcdenngpfaa.Script Go.Proofs.Ytnmfgcdenngpfaa.Tree Go.Proofs.Ytnmfgcdenngpfaa.More

set_option maxHeartbeats 1000000 in
theorem across_any (b : Bx) (h : Small b) (w : World) : Calls Try.prog 26 #[b.v] w fun e w' => e = .returned (.int .i64 (sideZ b)) ∧ Below w.heap.size w w' := by
  have h1 := h.m1
  have h2 := h.m3
  have h3 := h.e1
  have h4 := h.e3
  have a1 : IntKind.i64.wrap (b.m1 + b.m3) = b.m1 + b.m3 := IntWalk.i64_in _ (by omega)
  have a2 : IntKind.i64.wrap (b.m1 + b.m3 + b.e1) = b.m1 + b.m3 + b.e1 := IntWalk.i64_in _ (by omega)
  have a3 : IntKind.i64.wrap (b.m1 + b.m3 + b.e1 + b.e3) = sideZ b := IntWalk.i64_in _ (by omega)
  clear h1 h2 h3 h4 h
  go_enter Try.func26, Try.ntmps26
  go_wp2_with fail
  go_ret
  exact ⟨rfl, ba1 _ _⟩

theorem auto_or {b : Bx} (h : pickN (brokenOf b) = 0) : b.w = -1 ∨ 0 ≤ b.w := by
  have h1 := ((good_iff b).1 h).z
  unfold sizeB at h1
  simp only [Bool.or_eq_false_iff, decide_eq_false_iff_not] at h1
  have := h1.1.1.1
  omega

theorem ret_int {x y : Int} (h : x = y) : Ending.returned (Value.int .i64 x) = Ending.returned (Value.int .i64 y) := by rw [h]

set_option maxHeartbeats 1000000 in
theorem pcon_any (b : Bx) (x : Int) (w : World) (h : pickN (brokenOf b) = 0) (hx : okX x = true) : Calls Try.prog 11 #[b.v, .int .i64 x] w fun e w' => e = .returned (.int .i64 (conZ b x)) ∧ Below w.heap.size w w' := by
  have hs := sideZ_bound (small_of h)
  have hx2 := okX_iff.1 hx
  have HS := Lib.hid (fun w => across_any b (small_of h) w)
  obtain ⟨y, hy⟩ : ∃ y, sideZ b = y := ⟨_, rfl⟩
  have a1 : IntKind.i64.wrap (x - y) = x - y := IntWalk.i64_in _ (by omega)
  have hv : conZ b x = if 0 ≤ b.w then b.w else if x - y < 0 then 0 else x - y := by unfold conZ; rw [hy]
  rw [hv]
  rw [hy] at HS
  rcases auto_or h with hw | hw
  · rw [if_neg (by omega)]
    have hwn : (b.w != -1) = false := by simp [hw]
    clear h hs hx hx2 hy hv hw
    by_cases hc : x - y < 0
    · rw [if_pos hc]
      have hc2 : ¬ 0 < x - y := by omega
      go_enter Try.func11, Try.ntmps11
      go_wp2_with (first
        | (go_at_call 26; refine (HS.out _).mono ?_; rintro e w1 ⟨rfl, k1⟩; have K1 := Lib.hid (thru (ba1 w _) k1); clear k1))
      all_goals
        go_ret
        exact ⟨ret_int (by first | rfl | omega | (split <;> omega)), K1.out⟩
    · rw [if_neg hc]
      go_enter Try.func11, Try.ntmps11
      go_wp2_with (first
        | (go_at_call 26; refine (HS.out _).mono ?_; rintro e w1 ⟨rfl, k1⟩; have K1 := Lib.hid (thru (ba1 w _) k1); clear k1))
      all_goals
        go_ret
        exact ⟨ret_int (by first | rfl | omega | (split <;> omega)), K1.out⟩
  · rw [if_pos hw]
    have hwn : (b.w != -1) = true := by rw [bne_iff_ne]; omega
    clear h hs hx hx2 hy hv HS a1
    go_enter Try.func11, Try.ntmps11
    go_wp2_with fail
    go_ret
    exact ⟨rfl, ba1 _ _⟩

set_option maxHeartbeats 1000000 in
theorem pbor_any (b : Bx) (x : Int) (w : World) (h : pickN (brokenOf b) = 0) (hx : okX x = true) : Calls Try.prog 13 #[b.v, .int .i64 x] w fun e w' => e = .returned (.int .i64 (borZ b x)) ∧ Below w.heap.size w w' := by
  have hs := small_of h
  have h1 := hs.e1
  have h3 := hs.e3
  have hx2 := okX_iff.1 hx
  have a1 : IntKind.i64.wrap (x + b.e1) = x + b.e1 := IntWalk.i64_in _ (by omega)
  have a2 : IntKind.i64.wrap (x + b.e1 + b.e3) = borZ b x := IntWalk.i64_in _ (by omega)
  clear h hs h1 h3 hx hx2
  go_enter Try.func13, Try.ntmps13
  go_wp2_with fail
  go_ret
  exact ⟨rfl, ba1 _ _⟩

set_option maxHeartbeats 1000000 in
theorem pmar_any (b : Bx) (x : Int) (w : World) (h : pickN (brokenOf b) = 0) (hx : okX x = true) : Calls Try.prog 15 #[b.v, .int .i64 x] w fun e w' => e = .returned (.int .i64 (marZ b x)) ∧ Below w.heap.size w w' := by
  have hs := sideZ_bound (small_of h)
  have hx2 := okX_iff.1 hx
  have HS := Lib.hid (fun w => across_any b (small_of h) w)
  have a1 : IntKind.i64.wrap (x + sideZ b) = marZ b x := IntWalk.i64_in _ (by omega)
  clear h hs hx hx2
  go_enter Try.func15, Try.ntmps15
  go_wp2_with (first
    | (go_at_call 26; refine (HS.out _).mono ?_; rintro e w1 ⟨rfl, k1⟩; have K1 := Lib.hid (thru (ba1 w _) k1); clear k1))
  go_ret
  exact ⟨rfl, K1.out⟩

end Go.Proofs.Ytnmfgcdenngpfaa.Width
