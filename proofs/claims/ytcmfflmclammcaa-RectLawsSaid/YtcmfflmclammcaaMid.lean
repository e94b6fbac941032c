/- The contracts of what rect and the document make of two rectangles. -/
import Derived.Test.YtcmfflmclammcaaBase
import Derived.Test.YtcmfflmclammcaaReg
namespace Go.Proofs.Ytcmfflmclammcaa
open Go.RowKit Go.Sort

theorem bcell {W w1 : World} (hb : Below W.heap.size W w1) : (∀ b o, b < W.heap.size → w1.cell? ⟨b, o, none⟩ = W.cell? ⟨b, o, none⟩) ∧ (∀ b o, b < W.heap.size → w1.frozen? ⟨b, o, none⟩ = W.frozen? ⟨b, o, none⟩) :=
  ⟨fun b o h => hb.cell (p := ⟨b, o, none⟩) h, fun b o h => hb.frozen (p := ⟨b, o, none⟩) h⟩

theorem thru {w W w1 : World} (h1 : Below w.heap.size w W) (h2 : Below W.heap.size W w1) : Below w.heap.size w w1 := h1.trans (h2.mono h1.size)

set_option maxHeartbeats 400000 in
theorem pair_any (a0 a1 a2 a3 b0 b1 b2 b3 : Int) (w : World) :
    Calls Try.prog 24 #[.func (.func 25) #[] #[], .agg #[.int .i64 a0, .int .i64 a1, .int .i64 a2, .int .i64 a3], .agg #[.int .i64 b0, .int .i64 b1, .int .i64 b2, .int .i64 b3]] w
      fun e w' => e = .returned (.agg #[.int .i64 (max a0 b0), .int .i64 (max a1 b1), .int .i64 (min a2 b2), .int .i64 (min a3 b3)]) ∧ Below w.heap.size w w' := by
  go_enter Try.func24, Try.ntmps24
  go_wp2
  generalize hW : World.alloc (World.alloc (World.alloc w _) _) _ = W
  have ka0 := cell_regrown (w := W) (a := ⟨w.heap.size, 0, none⟩) (v := .int .i64 a0) (by rw [← hW]; simp [go_sem])
  have ka1 := cell_regrown (w := W) (a := ⟨w.heap.size, 1, none⟩) (v := .int .i64 a1) (by rw [← hW]; simp [go_sem])
  have ka2 := cell_regrown (w := W) (a := ⟨w.heap.size, 2, none⟩) (v := .int .i64 a2) (by rw [← hW]; simp [go_sem])
  have ka3 := cell_regrown (w := W) (a := ⟨w.heap.size, 3, none⟩) (v := .int .i64 a3) (by rw [← hW]; simp [go_sem])
  have kb0 := cell_regrown (w := W) (a := ⟨w.heap.size + 1, 0, none⟩) (v := .int .i64 b0) (by rw [← hW]; simp [go_sem])
  have kb1 := cell_regrown (w := W) (a := ⟨w.heap.size + 1, 1, none⟩) (v := .int .i64 b1) (by rw [← hW]; simp [go_sem])
  have kb2 := cell_regrown (w := W) (a := ⟨w.heap.size + 1, 2, none⟩) (v := .int .i64 b2) (by rw [← hW]; simp [go_sem])
  have kb3 := cell_regrown (w := W) (a := ⟨w.heap.size + 1, 3, none⟩) (v := .int .i64 b3) (by rw [← hW]; simp [go_sem])
  refine wp_region_quiet_below_tail 13 (by kernel_rfl) (by kernel_rfl) ?_
  simp only [List.take_succ_cons, List.take_zero, List.drop_succ_cons, List.drop_zero]
  repeat (quiet_step (first
    | (go_at_call 19; exact Calls.regrown_of (columns_any _ _ _ _ _))
    | (go_at_call 20; exact Calls.regrown_of (rows_any _ _ _ _ _))
    | (go_at_call 25; exact Calls.regrown_of (clip_any _ _ _ _ _))
    | (go_at_call 18; exact Calls.regrown_of (rof_any _ _ _ _ _))))
  refine wpQuiet_nil ?_
  intro _ hw'
  obtain ⟨⟨dq, osq⟩, hw''⟩ := hw'
  subst hw''
  clear ka0 ka1 ka2 ka3 kb0 kb1 kb2 kb3
  have hb := below_regrown W dq osq
  generalize grow (redrawn W dq) osq = W2 at hb ⊢
  subst hW
  obtain ⟨hc, hf⟩ := bcell hb
  have hz := hb.size
  simp at hz
  go_wp2
  exact bodyPost_ret (v := .agg #[.int .i64 (max a0 b0), .int .i64 (max a1 b1), .int .i64 (min a2 b2), .int .i64 (min a3 b3)]) (by simp [results, Try.results24, go_sem, hc]) rfl ⟨rfl, ((((thru (ba3 _ _ _ _) hb).setCell (by simp; omega) _).setCell (by simp; omega) _).setCell (by simp; omega) _).setCell (by simp; omega) _⟩

set_option maxHeartbeats 400000 in
theorem common_any (a0 a1 a2 a3 b0 b1 b2 b3 : Int) (w : World) :
    Calls Try.prog 12 #[.agg #[.int .i64 a0, .int .i64 a1, .int .i64 a2, .int .i64 a3], .agg #[.int .i64 b0, .int .i64 b1, .int .i64 b2, .int .i64 b3]] w
      fun e w' => e = .returned (.agg #[.int .i64 (max a0 b0), .int .i64 (max a1 b1), .int .i64 (min a2 b2), .int .i64 (min a3 b3)]) ∧ Below w.heap.size w w' := by
  go_enter Try.func12, Try.ntmps12
  go_wp2_with fail
  refine (pair_any _ _ _ _ _ _ _ _ _).mono ?_; rintro e w1 ⟨rfl, hb⟩
  obtain ⟨hc, hf⟩ := bcell hb
  have hz := hb.size
  simp at hz
  go_wp2_with fail
  exact bodyPost_ret (v := .agg #[.int .i64 (max a0 b0), .int .i64 (max a1 b1), .int .i64 (min a2 b2), .int .i64 (min a3 b3)]) (by simp [results, Try.results12, go_sem, hc]) rfl ⟨rfl, ((((thru (ba3 _ _ _ _) hb).setCell (by simp; omega) _).setCell (by simp; omega) _).setCell (by simp; omega) _).setCell (by simp; omega) _⟩

theorem calls_same_below {P : Program} {f : FuncId} {args : Array Value} {w : World} {v : Value} (h : Calls P f args w fun e w' => e = .returned v ∧ w = w') :
    Calls P f args w fun e w' => e = .returned v ∧ Below w.heap.size w w' := h.mono fun _ _ ⟨he, hw⟩ => ⟨he, by subst hw; exact Below.refl _ _⟩

theorem some_is (a b : Int) (v : Bool) (hv : decide (a < b) = v) (w : World) :
    Calls Try.prog 21 #[.agg #[.int .i64 a, .int .i64 b]] w fun e w' => e = .returned (.bool v) ∧ Below w.heap.size w w' := by
  subst hv; exact some_any a b w

set_option maxHeartbeats 400000 in
theorem full_is (l t r b : Int) (v : Bool) (hv : (decide (l < r) && decide (t < b)) = v) (w : World) :
    Calls Try.prog 8 #[.agg #[.int .i64 l, .int .i64 t, .int .i64 r, .int .i64 b]] w fun e w' => e = .returned (.bool v) ∧ Below w.heap.size w w' := by
  obtain ⟨p, hp⟩ : ∃ p : Bool, decide (l < r) = p := ⟨_, rfl⟩
  obtain ⟨q, hq⟩ : ∃ q : Bool, decide (t < b) = q := ⟨_, rfl⟩
  rw [hp, hq] at hv
  subst hv
  have HP := Lib.hid hp
  have HQ := Lib.hid hq
  clear hp hq
  cases p
  all_goals
    go_enter Try.func8, Try.ntmps8
    go_wp2_with fail
    refine (columns_any _ _ _ _ _).mono ?_; rintro e w1 ⟨rfl, b1⟩
    obtain ⟨c1, f1⟩ := bcell b1
    go_wp2_with fail
    refine (some_is _ _ _ HP.out _).mono ?_; rintro e w2 ⟨rfl, b2⟩
    replace b2 := thru b1 b2
    clear b1 c1 f1
    obtain ⟨c2, f2⟩ := bcell b2
    go_wp2_with fail
  · go_ret
    exact ⟨rfl, thru (ba1 _ _) b2⟩
  · refine (rows_any _ _ _ _ _).mono ?_; rintro e w3 ⟨rfl, b3⟩
    replace b3 := thru b2 b3
    clear b2 c2 f2
    go_wp2_with fail
    refine (some_is _ _ _ HQ.out _).mono ?_; rintro e w4 ⟨rfl, b4⟩
    replace b4 := thru b3 b4
    clear b3
    go_wp2_with fail
    go_ret
    exact ⟨by simp, thru (ba1 _ _) b4⟩

set_option maxHeartbeats 400000 in
theorem meet_is (a0 a1 a2 a3 b0 b1 b2 b3 : Int) (v : Bool) (hv : (decide (max a0 b0 < min a2 b2) && decide (max a1 b1 < min a3 b3)) = v) (w : World) :
    Calls Try.prog 10 #[.agg #[.int .i64 a0, .int .i64 a1, .int .i64 a2, .int .i64 a3], .agg #[.int .i64 b0, .int .i64 b1, .int .i64 b2, .int .i64 b3]] w fun e w' => e = .returned (.bool v) ∧ Below w.heap.size w w' := by
  have HV := Lib.hid hv
  clear hv
  go_enter Try.func10, Try.ntmps10
  go_wp2_with fail
  refine (common_any _ _ _ _ _ _ _ _ _).mono ?_; rintro e w1 ⟨rfl, b1⟩
  go_wp2_with fail
  refine (full_is _ _ _ _ _ HV.out _).mono ?_; rintro e w2 ⟨rfl, b2⟩
  replace b2 := thru b1 b2
  clear b1
  go_wp2_with fail
  go_ret
  exact ⟨rfl, thru (ba2 _ _ _) b2⟩

set_option maxHeartbeats 400000 in
theorem speaks_any (w : World) :
    Calls Try.prog 5 #[] w fun e w' => e = .returned (.bool true) ∧ Below w.heap.size w w' := by
  go_enter Try.func5, Try.ntmps5
  go_wp2_with fail
  refine (meet_is _ _ _ _ _ _ _ _ false (by decide) _).mono ?_; rintro e w1 ⟨rfl, b1⟩
  obtain ⟨c1, f1⟩ := bcell b1
  go_wp2_with fail
  refine (meet_is _ _ _ _ _ _ _ _ true (by decide) _).mono ?_; rintro e w2 ⟨rfl, b2⟩
  replace b2 := thru b1 b2
  clear b1 c1 f1
  obtain ⟨c2, f2⟩ := bcell b2
  go_wp2_with fail
  refine (full_is _ _ _ _ true (by decide) _).mono ?_; rintro e w3 ⟨rfl, b3⟩
  replace b3 := thru b2 b3
  clear b2 c2 f2
  go_wp2_with fail
  go_ret
  exact ⟨rfl, thru (ba2 _ _ _) b3⟩

theorem rhas_is (l t r b x y : Int) (v : Bool) (hv : (decide (l ≤ x) && decide (x < r) && (decide (t ≤ y) && decide (y < b))) = v) (w : World) :
    Calls Try.prog 23 #[.agg #[.int .i64 l, .int .i64 t, .int .i64 r, .int .i64 b], .int .i64 x, .int .i64 y] w fun e w' => e = .returned (.bool v) ∧ Below w.heap.size w w' := by
  subst hv; exact rhas_any l t r b x y w

set_option maxHeartbeats 400000 in
theorem rmeet_is (a0 a1 a2 a3 b0 b1 b2 b3 : Int) (v : Bool) (hv : (decide (max a0 b0 < min a2 b2) && decide (max a1 b1 < min a3 b3)) = v) (w : World) :
    Calls Try.prog 11 #[.agg #[.int .i64 a0, .int .i64 a1, .int .i64 a2, .int .i64 a3], .agg #[.int .i64 b0, .int .i64 b1, .int .i64 b2, .int .i64 b3]] w fun e w' => e = .returned (.bool v) ∧ Below w.heap.size w w' := by
  obtain ⟨p, hp⟩ : ∃ p : Bool, (decide (a0 ≤ max a0 b0) && decide (max a0 b0 < a2) && (decide (a1 ≤ max a1 b1) && decide (max a1 b1 < a3))) = p := ⟨_, rfl⟩
  obtain ⟨q, hq⟩ : ∃ q : Bool, (decide (b0 ≤ max a0 b0) && decide (max a0 b0 < b2) && (decide (b1 ≤ max a1 b1) && decide (max a1 b1 < b3))) = q := ⟨_, rfl⟩
  have hpq : v = (p && q) := by
    rw [← hv, ← hp, ← hq, Bool.eq_iff_iff]
    simp
    omega
  subst hpq
  have HP := Lib.hid hp
  have HQ := Lib.hid hq
  clear hp hq hv
  go_enter Try.func11, Try.ntmps11
  go_wp2
  generalize hW : World.alloc (World.alloc w _) _ = W
  have ka0 := cell_regrown (w := W) (a := ⟨w.heap.size, 0, none⟩) (v := .int .i64 a0) (by rw [← hW]; simp [go_sem])
  have ka1 := cell_regrown (w := W) (a := ⟨w.heap.size, 1, none⟩) (v := .int .i64 a1) (by rw [← hW]; simp [go_sem])
  have ka2 := cell_regrown (w := W) (a := ⟨w.heap.size, 2, none⟩) (v := .int .i64 a2) (by rw [← hW]; simp [go_sem])
  have ka3 := cell_regrown (w := W) (a := ⟨w.heap.size, 3, none⟩) (v := .int .i64 a3) (by rw [← hW]; simp [go_sem])
  have kb0 := cell_regrown (w := W) (a := ⟨w.heap.size + 1, 0, none⟩) (v := .int .i64 b0) (by rw [← hW]; simp [go_sem])
  have kb1 := cell_regrown (w := W) (a := ⟨w.heap.size + 1, 1, none⟩) (v := .int .i64 b1) (by rw [← hW]; simp [go_sem])
  have kb2 := cell_regrown (w := W) (a := ⟨w.heap.size + 1, 2, none⟩) (v := .int .i64 b2) (by rw [← hW]; simp [go_sem])
  have kb3 := cell_regrown (w := W) (a := ⟨w.heap.size + 1, 3, none⟩) (v := .int .i64 b3) (by rw [← hW]; simp [go_sem])
  refine wp_region_quiet_below (by kernel_rfl) (by kernel_rfl) ?_
  repeat (quiet_step (first
    | (go_at_call 22; exact Calls.regrown_of (calls_same_below (greater_any _ _ _)))))
  refine wpQuiet_nil ?_
  intro _ hw'
  obtain ⟨⟨dq, osq⟩, hw''⟩ := hw'
  subst hw''
  clear ka0 ka1 ka2 ka3 kb0 kb1 kb2 kb3
  have hb := below_regrown W dq osq
  generalize grow (redrawn W dq) osq = W2 at hb ⊢
  subst hW
  obtain ⟨hc, hf⟩ := bcell hb
  cases p
  all_goals
    go_wp2_with fail
    refine (rhas_is _ _ _ _ _ _ _ HP.out _).mono ?_; rintro e w2 ⟨rfl, b2⟩
    replace b2 := thru hb b2
    clear hb hc hf
    obtain ⟨c2, f2⟩ := bcell b2
    go_wp2_with fail
  · go_ret
    exact ⟨rfl, thru (ba2 _ _ _) b2⟩
  · refine (rhas_is _ _ _ _ _ _ _ HQ.out _).mono ?_; rintro e w3 ⟨rfl, b3⟩
    replace b3 := thru b2 b3
    clear b2 c2 f2
    go_wp2_with fail
    go_ret
    exact ⟨by simp, thru (ba2 _ _ _) b3⟩

set_option maxHeartbeats 400000 in
theorem rcommon_any (a0 a1 a2 a3 b0 b1 b2 b3 : Int) (w : World) :
    Calls Try.prog 13 #[.agg #[.int .i64 a0, .int .i64 a1, .int .i64 a2, .int .i64 a3], .agg #[.int .i64 b0, .int .i64 b1, .int .i64 b2, .int .i64 b3]] w fun e w' => e = .returned (.agg #[.int .i64 (max a0 b0), .int .i64 (max a1 b1), .int .i64 (min a2 b2), .int .i64 (min a3 b3)]) ∧ Below w.heap.size w w' := by
  go_enter Try.func13, Try.ntmps13
  go_wp2
  generalize hW : World.alloc (World.alloc (World.alloc w _) _) _ = W
  have ka0 := cell_regrown (w := W) (a := ⟨w.heap.size, 0, none⟩) (v := .int .i64 a0) (by rw [← hW]; simp [go_sem])
  have ka1 := cell_regrown (w := W) (a := ⟨w.heap.size, 1, none⟩) (v := .int .i64 a1) (by rw [← hW]; simp [go_sem])
  have ka2 := cell_regrown (w := W) (a := ⟨w.heap.size, 2, none⟩) (v := .int .i64 a2) (by rw [← hW]; simp [go_sem])
  have ka3 := cell_regrown (w := W) (a := ⟨w.heap.size, 3, none⟩) (v := .int .i64 a3) (by rw [← hW]; simp [go_sem])
  have kb0 := cell_regrown (w := W) (a := ⟨w.heap.size + 1, 0, none⟩) (v := .int .i64 b0) (by rw [← hW]; simp [go_sem])
  have kb1 := cell_regrown (w := W) (a := ⟨w.heap.size + 1, 1, none⟩) (v := .int .i64 b1) (by rw [← hW]; simp [go_sem])
  have kb2 := cell_regrown (w := W) (a := ⟨w.heap.size + 1, 2, none⟩) (v := .int .i64 b2) (by rw [← hW]; simp [go_sem])
  have kb3 := cell_regrown (w := W) (a := ⟨w.heap.size + 1, 3, none⟩) (v := .int .i64 b3) (by rw [← hW]; simp [go_sem])
  refine wp_region_quiet_below_tail 21 (by kernel_rfl) (by kernel_rfl) ?_
  simp only [List.take_succ_cons, List.take_zero, List.drop_succ_cons, List.drop_zero]
  repeat (quiet_step (first
    | (go_at_call 22; exact Calls.regrown_of (calls_same_below (greater_any _ _ _)))
    | (go_at_call 26; exact Calls.regrown_of (calls_same_below (lesser_any _ _ _)))))
  refine wpQuiet_nil ?_
  intro _ hw'
  obtain ⟨⟨dq, osq⟩, hw''⟩ := hw'
  subst hw''
  clear ka0 ka1 ka2 ka3 kb0 kb1 kb2 kb3
  have hb := below_regrown W dq osq
  generalize grow (redrawn W dq) osq = W2 at hb ⊢
  subst hW
  obtain ⟨hc, hf⟩ := bcell hb
  go_wp2
  exact bodyPost_ret (v := .agg #[.int .i64 (max a0 b0), .int .i64 (max a1 b1), .int .i64 (min a2 b2), .int .i64 (min a3 b3)]) (by simp [results, Try.results13, go_sem, hc]) rfl ⟨rfl, ((((thru (ba3 _ _ _ _) hb).setCell (by simp; omega) _).setCell (by simp; omega) _).setCell (by simp; omega) _).setCell (by simp; omega) _⟩

end Go.Proofs.Ytcmfflmclammcaa
