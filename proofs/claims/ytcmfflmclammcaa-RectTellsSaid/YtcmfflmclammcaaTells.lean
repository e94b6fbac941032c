/- The walk of RectTells. -/
import Derived.Test.YtcmfflmclammcaaFour
namespace Go.Proofs.Ytcmfflmclammcaa
open Go.RowKit Go.Sort

set_option maxRecDepth 100000 in
set_option maxHeartbeats 1000000 in
theorem tells_all (a0 a1 a2 a3 b0 b1 b2 b3 p q s u : Int) (w : World) (ha : [a0, a1, a2, a3].all inB = true) (hb : [b0, b1, b2, b3].all inB = true) (hy : [p, q, s, u].all inB = true) :
    Calls Try.prog 3 #[.agg #[.int .i64 a0, .int .i64 a1, .int .i64 a2, .int .i64 a3], .agg #[.int .i64 b0, .int .i64 b1, .int .i64 b2, .int .i64 b3], .agg #[.int .i64 p, .int .i64 q, .int .i64 s, .int .i64 u]] w
      fun e w' => e = .returned (.bool true) ∧ Below w.heap.size w w' := by
  have HA := Lib.hid ha
  have HB := Lib.hid hb
  have HY := Lib.hid hy
  clear ha hb hy
  obtain ⟨vf, hf⟩ : ∃ v : Bool, (decide (a0 < a2) && decide (a1 < a3)) = v := ⟨_, rfl⟩
  obtain ⟨vm, hm⟩ : ∃ v : Bool, (decide (max a0 b0 < min a2 b2) && decide (max a1 b1 < min a3 b3)) = v := ⟨_, rfl⟩
  have HF := Lib.hid hf
  have HM := Lib.hid hm
  clear hf hm
  have Ba0 := Lib.hid (inB_0 HA.out)
  have Ba1 := Lib.hid (inB_1 HA.out)
  have Ba2 := Lib.hid (inB_2 HA.out)
  have Ba3 := Lib.hid (inB_3 HA.out)
  have Bb0 := Lib.hid (inB_0 HB.out)
  have Bb1 := Lib.hid (inB_1 HB.out)
  have Bb2 := Lib.hid (inB_2 HB.out)
  have Bb3 := Lib.hid (inB_3 HB.out)
  have Bp := Lib.hid (inB_0 HY.out)
  have Bq := Lib.hid (inB_1 HY.out)
  have Bs := Lib.hid (inB_2 HY.out)
  have Bu := Lib.hid (inB_3 HY.out)
  go_enter Try.func3, Try.ntmps3
  go_wp2_with fail
  refine (speaks_any _).mono ?_; rintro e w1 ⟨rfl, k1⟩
  obtain ⟨ra, rb, ry, kw⟩ := boxed3 w a0 a1 a2 a3 b0 b1 b2 b3 p q s u 23 23 22 w1 k1
  clear k1
  have RA := Lib.hid ra
  have RB := Lib.hid rb
  have RY := Lib.hid ry
  have KW := Lib.hid kw
  clear ra rb ry kw
  go_wp2_with fail
  refine (RA.out.small _ HA.out).mono ?_; rintro e w' ⟨rfl, rfl⟩
  go_wp2_with fail
  refine (RB.out.small _ HB.out).mono ?_; rintro e w' ⟨rfl, rfl⟩
  go_wp2_with fail
  refine (RY.out.small _ HY.out).mono ?_; rintro e w' ⟨rfl, rfl⟩
  go_wp2_with fail
  refine wp_region_boxes [.val (.agg #[.int .i64 a0, .int .i64 a1, .int .i64 a2, .int .i64 a3]), .val (.agg #[.int .i64 a0, .int .i64 a1, .int .i64 a2, .int .i64 a3]),
    .val (.agg #[.int .i64 b0, .int .i64 b1, .int .i64 b2, .int .i64 b3]), .val (.agg #[.int .i64 b0, .int .i64 b1, .int .i64 b2, .int .i64 b3]),
    .box (.cells #[.int .i64 0, .int .i64 0, .int .i64 0, .int .i64 0] 28), .box (.cells #[.int .i64 0, .int .i64 0, .int .i64 0, .int .i64 0] 28)] (by kernel_rfl) (by kernel_rfl) ?_ ?_
  · simp only [fill, Yield.value]
    refine ⟨?_, ?_, ?_, ?_, ?_, ?_, trivial⟩
    · intro w' hw
      have hh := RA.out.below hw
      unfold R4 at hh
      go_simp
      exact stays_val
    · intro w' hw
      go_simp
      exact stays_call (of_any _ _ _ _ _)
    · intro w' hw
      have hh := RB.out.below hw
      unfold R4 at hh
      go_simp
      exact stays_val
    · intro w' hw
      go_simp
      exact stays_call (of_any _ _ _ _ _)
    · intro w'
      go_simp
    · intro w'
      go_simp
  · intro g w2 k2 hbox hap
    obtain ⟨g4, h4⟩ := hbox 4 _ rfl
    obtain ⟨g5, h5⟩ := hbox 5 _ rfl
    have h45 := hap 4 5 _ _ (by decide) rfl rfl
    clear hbox hap
    have H45 := Lib.hid h45
    obtain ⟨c0, c1, c2, c3⟩ := R4.of_block h4
    obtain ⟨d0, d1, d2, d3⟩ := R4.of_block h5
    obtain ⟨f0, f1, f2, f3⟩ := free4 h4
    obtain ⟨e0, e1, e2, e3⟩ := free4 h5
    have X4 := Lib.hid h4
    have X5 := Lib.hid h5
    have K2 := Lib.hid k2
    clear h4 h5 k2
    simp only [fill, Yield.value, List.length_cons, List.length_nil, List.drop_succ_cons, List.drop_zero]
    change g 4 ≠ g 5 at h45
    have h54 := Ne.symm h45
    generalize g 4 = p4 at *
    generalize g 5 = p5 at *
    go_wp2_with fail
    generalize hw3 : World.setCell _ _ _ = w3
    obtain ⟨sa, sb, k3⟩ := stored_two K2.out g4 X4.out g5 X5.out H45.out a0 a1 a2 a3 b0 b1 b2 b3 w3 hw3.symm
    clear hw3 c0 c1 c2 c3 d0 d1 d2 d3 f0 f1 f2 f3 e0 e1 e2 e3 X4 X5 K2 h45 h54 H45 g4 g5
    have SA := Lib.hid sa
    have SB := Lib.hid sb
    replace RA := Lib.hid (RA.out.below k3)
    replace RB := Lib.hid (RB.out.below k3)
    replace RY := Lib.hid (RY.out.below k3)
    replace KW := Lib.hid (thru KW.out k3)
    clear sa sb k3
    obtain ⟨ra0, ra1, ra2, ra3⟩ := RA.out.grown
    obtain ⟨rb0, rb1, rb2, rb3⟩ := RB.out.grown
    obtain ⟨ry0, ry1, ry2, ry3⟩ := RY.out.grown
    obtain ⟨sa0, sa1, sa2, sa3⟩ := SA.out.grown
    obtain ⟨sb0, sb1, sb2, sb3⟩ := SB.out.grown
    refine wp_region_quiet_below (by kernel_rfl) (by kernel_rfl) ?_
    repeat (quiet_step (first
      | (go_at_call 8; exact Calls.regrown_of (full_is _ _ _ _ _ HF.out _))
      | (go_at_call 9; exact Calls.regrown_of (rfull_is _ _ _ _ _ HF.out _))
      | (go_at_call 10; exact Calls.regrown_of (meet_is _ _ _ _ _ _ _ _ _ HM.out _))
      | (go_at_call 11; exact Calls.regrown_of (rmeet_is _ _ _ _ _ _ _ _ _ HM.out _))
      | (go_at_call 12; exact Calls.regrown_of (common_any _ _ _ _ _ _ _ _ _))
      | (go_at_call 13; exact Calls.regrown_of (rcommon_any _ _ _ _ _ _ _ _ _))
      | (go_at_call 7; exact Calls.regrown_of (of_any _ _ _ _ _))))
    refine wpQuiet_nil ?_
    intro _ hw'
    obtain ⟨⟨dq4, os4⟩, hw''⟩ := hw'
    subst hw''
    clear ra0 ra1 ra2 ra3 rb0 rb1 rb2 rb3 ry0 ry1 ry2 ry3 sa0 sa1 sa2 sa3 sb0 sb1 sb2 sb3
    have q4 := below_regrown w3 dq4 os4
    generalize grow (redrawn w3 dq4) os4 = w4 at q4 ⊢
    replace RA := Lib.hid (RA.out.below q4)
    replace RB := Lib.hid (RB.out.below q4)
    replace RY := Lib.hid (RY.out.below q4)
    replace SA := Lib.hid (SA.out.below q4)
    replace SB := Lib.hid (SB.out.below q4)
    replace KW := Lib.hid (thru KW.out q4)
    clear q4
    go_wp2_with fail
    obtain ⟨ra0, ra1, ra2, ra3⟩ := RA.out.grown
    obtain ⟨rb0, rb1, rb2, rb3⟩ := RB.out.grown
    obtain ⟨ry0, ry1, ry2, ry3⟩ := RY.out.grown
    obtain ⟨sa0, sa1, sa2, sa3⟩ := SA.out.grown
    obtain ⟨sb0, sb1, sb2, sb3⟩ := SB.out.grown
    refine wp_region_quiet_below (by kernel_rfl) (by kernel_rfl) ?_
    repeat (quiet_step (first
      | (go_at_call 14; exact Calls.regrown_of (shift_any _ _ _ _ _ _ Ba0.out Ba1.out Ba2.out Ba3.out Bp.out Bq.out _))
      | (go_at_call 15; exact Calls.regrown_of (rshift_any _ _ _ _ _ _ Ba0.out Ba1.out Ba2.out Ba3.out Bp.out Bq.out _))
      | (go_at_call 16; exact Calls.regrown_of (grow_any _ _ _ _ _ _ _ _ Ba0.out Ba1.out Ba2.out Ba3.out Bp.out Bq.out Bs.out Bu.out _))
      | (go_at_call 17; exact Calls.regrown_of (rgrow_any _ _ _ _ _ _ _ _ Ba0.out Ba1.out Ba2.out Ba3.out Bp.out Bq.out Bs.out Bu.out _))
      | (go_at_call 7; exact Calls.regrown_of (of_any _ _ _ _ _))))
    refine wpQuiet_nil ?_
    intro _ hw'
    obtain ⟨⟨dq6, os6⟩, hw''⟩ := hw'
    subst hw''
    clear ra0 ra1 ra2 ra3 rb0 rb1 rb2 rb3 ry0 ry1 ry2 ry3 sa0 sa1 sa2 sa3 sb0 sb1 sb2 sb3
    have q6 := below_regrown w4 dq6 os6
    generalize grow (redrawn w4 dq6) os6 = w5 at q6 ⊢
    replace RA := Lib.hid (RA.out.below q6)
    replace RB := Lib.hid (RB.out.below q6)
    replace RY := Lib.hid (RY.out.below q6)
    replace SA := Lib.hid (SA.out.below q6)
    replace SB := Lib.hid (SB.out.below q6)
    replace KW := Lib.hid (thru KW.out q6)
    clear q6
    go_wp2_with fail
    obtain ⟨ra0, ra1, ra2, ra3⟩ := RA.out.grown
    obtain ⟨rb0, rb1, rb2, rb3⟩ := RB.out.grown
    obtain ⟨ry0, ry1, ry2, ry3⟩ := RY.out.grown
    obtain ⟨sa0, sa1, sa2, sa3⟩ := SA.out.grown
    obtain ⟨sb0, sb1, sb2, sb3⟩ := SB.out.grown
    refine wp_region_quiet_below (by kernel_rfl) (by kernel_rfl) ?_
    repeat (quiet_step (first
      | (go_at_call 19; exact Calls.regrown_of (columns_any _ _ _ _ _))
      | (go_at_call 20; exact Calls.regrown_of (rows_any _ _ _ _ _))
      | (go_at_call 18; exact Calls.regrown_of (rof_any _ _ _ _ _))))
    refine wpQuiet_nil ?_
    intro _ hw'
    obtain ⟨⟨dq8, os8⟩, hw''⟩ := hw'
    subst hw''
    clear ra0 ra1 ra2 ra3 rb0 rb1 rb2 rb3 ry0 ry1 ry2 ry3 sa0 sa1 sa2 sa3 sb0 sb1 sb2 sb3
    have q8 := below_regrown w5 dq8 os8
    generalize grow (redrawn w5 dq8) os8 = w6 at q8 ⊢
    replace RA := Lib.hid (RA.out.below q8)
    replace RB := Lib.hid (RB.out.below q8)
    replace RY := Lib.hid (RY.out.below q8)
    replace SA := Lib.hid (SA.out.below q8)
    replace SB := Lib.hid (SB.out.below q8)
    replace KW := Lib.hid (thru KW.out q8)
    clear q8
    go_wp2_with fail
    go_ret
    exact ⟨rfl, KW.out⟩

end Go.Proofs.Ytcmfflmclammcaa
