/- The law: which clears clear which sides. -/
import Derived.Test.YtfomhdhiibcdfaaPart29
namespace Go.Proofs.Ytfomhdhiibcdfaa.Ahead
open Go.RowKit Go.Sort Go.Proofs.Ytfomhdhiibcdfaa.More Go.Proofs.Ytfomhdhiibcdfaa.Record Go.Proofs.Ytfomhdhiibcdfaa.Script Go.Proofs.Ytfomhdhiibcdfaa.Tree Go.Proofs.Ytfomhdhiibcdfaa.Shelf Go.Proofs.Ytfomhdhiibcdfaa.Space Go.Proofs.Ytfomhdhiibcdfaa.Spot
set_option linter.unusedVariables false
set_option linter.unusedSimpArgs false

section
variable {T : World → Addr → List Bx → Prop} {S : World → (Nat → Prop) → Addr → List Fl → Prop}

set_option maxRecDepth 100000 in
set_option maxHeartbeats 4000000 in
theorem hclears_all (hT : TreeOk T) (hS : SpaceOk S) (hA : AheadOk T S) (cu su : Int) (hcu : 0 ≤ cu ∧ cu ≤ 255) (hsu : 0 ≤ su ∧ su ≤ 255) (w : World) :
    Calls Try.prog 3 #[.int .u8 cu, .int .u8 su] w fun e w' => e = .returned (.bool true) ∧ Below w.heap.size w w' := by
  have HSp := Lib.hid (fun w' => hspeaks hT hS hA w')
  have HCl := Lib.hid hA.clears
  obtain ⟨c, hc⟩ : ∃ c, cu.tmod 4 = c := ⟨_, rfl⟩
  obtain ⟨d, hd⟩ : ∃ d, su.tmod 4 = d := ⟨_, rfl⟩
  have c0 := Int.tmod_nonneg 4 hcu.1
  have c1 := Int.tmod_lt_of_pos cu (show (0 : Int) < 4 by omega)
  have d0 := Int.tmod_nonneg 4 hsu.1
  have d1 := Int.tmod_lt_of_pos su (show (0 : Int) < 4 by omega)
  rw [hc] at c0 c1
  rw [hd] at d0 d1
  have hcc : c = 0 ∨ c = 1 ∨ c = 2 ∨ c = 3 := by omega
  have hdd : d = 0 ∨ d = 1 ∨ d = 2 ∨ d = 3 := by omega
  clear c0 c1 d0 d1
  rcases hcc with rfl | rfl | rfl | rfl <;> rcases hdd with rfl | rfl | rfl | rfl
  · go_enter Try.func3, Try.ntmps3
    go_upto_region 3 with fail
    generalize hW : World.alloc w _ = W
    obtain ⟨b7, hb7⟩ : ∃ b, w.heap.size = b := ⟨_, rfl⟩
    have z7 : Lies W b7 (rlrow ⟨zeroRp, false, false, false⟩ none 0 0) := by rw [← hW, ← hb7]; exact Lies.new w _ _
    have k1 : Below w.heap.size w W := by rw [← hW]; exact ba1 _ _
    try rw [hb7]
    have K1 := Lib.hid k1
    have HZ := Lib.hid (fun w' (j : Below W.heap.size W w') => z7.below (by simp) j)
    clear hW hb7 z7 k1
    refine Hold.wp_region_hold [.val (.bool true), .val (.bool true), .val (.int .i64 0), .val (.int .i64 0), .val (.bool false), .val (.int .i64 0), .val (.agg #[.int .i64 0, .slice none 0 0, .bool false, .bool false, .bool false, .bool false, .bool false]), .val (.bool false), .val (.bool true), .val (.bool true), .val (.bool true), .val (.int .i64 0), .val (.int .i64 0), .val (.bool false), .val (.int .i64 0), .val (.int .i64 0), .val (.bool false), .val (.bool true), .val (.bool true)] (by kernel_rfl) (by kernel_rfl) (by kernel_rfl) ?_ ?_
    · simp only [Hold.fill, Hold.Leave.value]
      refine ⟨?_, ?_, ?_, ?_, ?_, ?_, ?_, ?_, ?_, ?_, ?_, ?_, ?_, ?_, ?_, ?_, ?_, ?_, ?_, trivial⟩
      · intro gg w' hw hk
        go_simp
        exact Hold.stays_call (HSp.out w')
      · intro gg w' hw hk
        go_simp
        exact ⟨rfl, rfl⟩
      · intro gg w' hw hk
        go_simp
        exact ⟨rfl, rfl⟩
      · intro gg w' hw hk
        go_simp
        exact ⟨rfl, rfl⟩
      · intro gg w' hw hk
        go_simp
        exact Hold.stays_call (HCl.out 0 0 w' (by omega) (by omega))
      · intro gg w' hw hk
        go_simp
        exact ⟨rfl, rfl⟩
      · intro gg w' hw hk
        have q0 : w'.cell? ⟨b7, 0, none⟩ = some (.int .i64 0) := (HZ.out w' hw).at' 0
        have q1 : w'.cell? ⟨b7, 1, none⟩ = some (.slice none 0 0) := (HZ.out w' hw).at' 1
        have q2 : w'.cell? ⟨b7, 2, none⟩ = some (.bool false) := (HZ.out w' hw).at' 2
        have q3 : w'.cell? ⟨b7, 3, none⟩ = some (.bool false) := (HZ.out w' hw).at' 3
        have q4 : w'.cell? ⟨b7, 4, none⟩ = some (.bool false) := (HZ.out w' hw).at' 4
        have q5 : w'.cell? ⟨b7, 5, none⟩ = some (.bool false) := (HZ.out w' hw).at' 5
        have q6 : w'.cell? ⟨b7, 6, none⟩ = some (.bool false) := (HZ.out w' hw).at' 6
        go_simp
        exact ⟨rfl, rfl⟩
      · intro gg w' hw hk
        go_simp
        exact Hold.stays_call (hrclears_is (by omega) (k := ⟨zeroRp, false, false, false⟩) (by decide) none 0 0 w')
      · intro gg w' hw hk
        go_simp
        exact ⟨rfl, rfl⟩
      · intro gg w' hw hk
        go_simp
        exact ⟨rfl, rfl⟩
      · intro gg w' hw hk
        go_simp
        exact ⟨rfl, rfl⟩
      · intro gg w' hw hk
        go_simp
        exact ⟨rfl, rfl⟩
      · intro gg w' hw hk
        go_simp
        exact ⟨rfl, rfl⟩
      · intro gg w' hw hk
        go_simp
        exact Hold.stays_call (HCl.out 0 0 w' (by omega) (by omega))
      · intro gg w' hw hk
        go_simp
        exact ⟨rfl, rfl⟩
      · intro gg w' hw hk
        go_simp
        exact ⟨rfl, rfl⟩
      · intro gg w' hw hk
        go_simp
        exact Hold.stays_call (HCl.out 0 0 w' (by omega) (by omega))
      · intro gg w' hw hk
        go_simp
        exact ⟨rfl, rfl⟩
      · intro gg w' hw hk
        go_simp
        exact ⟨rfl, rfl⟩
    intro gg w3 k3 hgg
    clear hgg
    simp only [Hold.fill, Hold.Leave.value, List.length_cons, List.length_nil, List.drop_succ_cons, List.drop_zero]
    go_simp
    go_wp2_with fail
    go_ret
    exact ⟨rfl, thru K1.out k3⟩
  · go_enter Try.func3, Try.ntmps3
    go_upto_region 3 with fail
    generalize hW : World.alloc w _ = W
    obtain ⟨b7, hb7⟩ : ∃ b, w.heap.size = b := ⟨_, rfl⟩
    have z7 : Lies W b7 (rlrow ⟨zeroRp, true, false, false⟩ none 0 0) := by rw [← hW, ← hb7]; exact Lies.new w _ _
    have k1 : Below w.heap.size w W := by rw [← hW]; exact ba1 _ _
    try rw [hb7]
    have K1 := Lib.hid k1
    have HZ := Lib.hid (fun w' (j : Below W.heap.size W w') => z7.below (by simp) j)
    clear hW hb7 z7 k1
    refine Hold.wp_region_hold [.val (.bool true), .val (.bool true), .val (.int .i64 0), .val (.int .i64 1), .val (.bool false), .val (.int .i64 0), .val (.agg #[.int .i64 0, .slice none 0 0, .bool false, .bool false, .bool true, .bool false, .bool false]), .val (.bool false), .val (.bool true), .val (.bool true), .val (.bool true), .val (.int .i64 1), .val (.int .i64 0), .val (.bool false), .val (.int .i64 0), .val (.int .i64 1), .val (.bool false), .val (.bool true), .val (.bool true)] (by kernel_rfl) (by kernel_rfl) (by kernel_rfl) ?_ ?_
    · simp only [Hold.fill, Hold.Leave.value]
      refine ⟨?_, ?_, ?_, ?_, ?_, ?_, ?_, ?_, ?_, ?_, ?_, ?_, ?_, ?_, ?_, ?_, ?_, ?_, ?_, trivial⟩
      · intro gg w' hw hk
        go_simp
        exact Hold.stays_call (HSp.out w')
      · intro gg w' hw hk
        go_simp
        exact ⟨rfl, rfl⟩
      · intro gg w' hw hk
        go_simp
        exact ⟨rfl, rfl⟩
      · intro gg w' hw hk
        go_simp
        exact ⟨rfl, rfl⟩
      · intro gg w' hw hk
        go_simp
        exact Hold.stays_call (HCl.out 0 1 w' (by omega) (by omega))
      · intro gg w' hw hk
        go_simp
        exact ⟨rfl, rfl⟩
      · intro gg w' hw hk
        have q0 : w'.cell? ⟨b7, 0, none⟩ = some (.int .i64 0) := (HZ.out w' hw).at' 0
        have q1 : w'.cell? ⟨b7, 1, none⟩ = some (.slice none 0 0) := (HZ.out w' hw).at' 1
        have q2 : w'.cell? ⟨b7, 2, none⟩ = some (.bool false) := (HZ.out w' hw).at' 2
        have q3 : w'.cell? ⟨b7, 3, none⟩ = some (.bool false) := (HZ.out w' hw).at' 3
        have q4 : w'.cell? ⟨b7, 4, none⟩ = some (.bool true) := (HZ.out w' hw).at' 4
        have q5 : w'.cell? ⟨b7, 5, none⟩ = some (.bool false) := (HZ.out w' hw).at' 5
        have q6 : w'.cell? ⟨b7, 6, none⟩ = some (.bool false) := (HZ.out w' hw).at' 6
        go_simp
        exact ⟨rfl, rfl⟩
      · intro gg w' hw hk
        go_simp
        exact Hold.stays_call (hrclears_is (by omega) (k := ⟨zeroRp, true, false, false⟩) (by decide) none 0 0 w')
      · intro gg w' hw hk
        go_simp
        exact ⟨rfl, rfl⟩
      · intro gg w' hw hk
        go_simp
        exact ⟨rfl, rfl⟩
      · intro gg w' hw hk
        go_simp
        exact ⟨rfl, rfl⟩
      · intro gg w' hw hk
        go_simp
        exact ⟨rfl, rfl⟩
      · intro gg w' hw hk
        go_simp
        exact ⟨rfl, rfl⟩
      · intro gg w' hw hk
        go_simp
        exact Hold.stays_call (HCl.out 1 0 w' (by omega) (by omega))
      · intro gg w' hw hk
        go_simp
        exact ⟨rfl, rfl⟩
      · intro gg w' hw hk
        go_simp
        exact ⟨rfl, rfl⟩
      · intro gg w' hw hk
        go_simp
        exact Hold.stays_call (HCl.out 0 1 w' (by omega) (by omega))
      · intro gg w' hw hk
        go_simp
        exact ⟨rfl, rfl⟩
      · intro gg w' hw hk
        go_simp
        exact ⟨rfl, rfl⟩
    intro gg w3 k3 hgg
    clear hgg
    simp only [Hold.fill, Hold.Leave.value, List.length_cons, List.length_nil, List.drop_succ_cons, List.drop_zero]
    go_simp
    go_wp2_with fail
    go_ret
    exact ⟨rfl, thru K1.out k3⟩
  · go_enter Try.func3, Try.ntmps3
    go_upto_region 3 with fail
    generalize hW : World.alloc w _ = W
    obtain ⟨b7, hb7⟩ : ∃ b, w.heap.size = b := ⟨_, rfl⟩
    have z7 : Lies W b7 (rlrow ⟨zeroRp, false, true, false⟩ none 0 0) := by rw [← hW, ← hb7]; exact Lies.new w _ _
    have k1 : Below w.heap.size w W := by rw [← hW]; exact ba1 _ _
    try rw [hb7]
    have K1 := Lib.hid k1
    have HZ := Lib.hid (fun w' (j : Below W.heap.size W w') => z7.below (by simp) j)
    clear hW hb7 z7 k1
    refine Hold.wp_region_hold [.val (.bool true), .val (.bool true), .val (.int .i64 0), .val (.int .i64 2), .val (.bool false), .val (.int .i64 0), .val (.agg #[.int .i64 0, .slice none 0 0, .bool false, .bool false, .bool false, .bool true, .bool false]), .val (.bool false), .val (.bool true), .val (.bool true), .val (.bool true), .val (.int .i64 2), .val (.int .i64 0), .val (.bool false), .val (.int .i64 0), .val (.int .i64 2), .val (.bool false), .val (.bool true), .val (.bool true)] (by kernel_rfl) (by kernel_rfl) (by kernel_rfl) ?_ ?_
    · simp only [Hold.fill, Hold.Leave.value]
      refine ⟨?_, ?_, ?_, ?_, ?_, ?_, ?_, ?_, ?_, ?_, ?_, ?_, ?_, ?_, ?_, ?_, ?_, ?_, ?_, trivial⟩
      · intro gg w' hw hk
        go_simp
        exact Hold.stays_call (HSp.out w')
      · intro gg w' hw hk
        go_simp
        exact ⟨rfl, rfl⟩
      · intro gg w' hw hk
        go_simp
        exact ⟨rfl, rfl⟩
      · intro gg w' hw hk
        go_simp
        exact ⟨rfl, rfl⟩
      · intro gg w' hw hk
        go_simp
        exact Hold.stays_call (HCl.out 0 2 w' (by omega) (by omega))
      · intro gg w' hw hk
        go_simp
        exact ⟨rfl, rfl⟩
      · intro gg w' hw hk
        have q0 : w'.cell? ⟨b7, 0, none⟩ = some (.int .i64 0) := (HZ.out w' hw).at' 0
        have q1 : w'.cell? ⟨b7, 1, none⟩ = some (.slice none 0 0) := (HZ.out w' hw).at' 1
        have q2 : w'.cell? ⟨b7, 2, none⟩ = some (.bool false) := (HZ.out w' hw).at' 2
        have q3 : w'.cell? ⟨b7, 3, none⟩ = some (.bool false) := (HZ.out w' hw).at' 3
        have q4 : w'.cell? ⟨b7, 4, none⟩ = some (.bool false) := (HZ.out w' hw).at' 4
        have q5 : w'.cell? ⟨b7, 5, none⟩ = some (.bool true) := (HZ.out w' hw).at' 5
        have q6 : w'.cell? ⟨b7, 6, none⟩ = some (.bool false) := (HZ.out w' hw).at' 6
        go_simp
        exact ⟨rfl, rfl⟩
      · intro gg w' hw hk
        go_simp
        exact Hold.stays_call (hrclears_is (by omega) (k := ⟨zeroRp, false, true, false⟩) (by decide) none 0 0 w')
      · intro gg w' hw hk
        go_simp
        exact ⟨rfl, rfl⟩
      · intro gg w' hw hk
        go_simp
        exact ⟨rfl, rfl⟩
      · intro gg w' hw hk
        go_simp
        exact ⟨rfl, rfl⟩
      · intro gg w' hw hk
        go_simp
        exact ⟨rfl, rfl⟩
      · intro gg w' hw hk
        go_simp
        exact ⟨rfl, rfl⟩
      · intro gg w' hw hk
        go_simp
        exact Hold.stays_call (HCl.out 2 0 w' (by omega) (by omega))
      · intro gg w' hw hk
        go_simp
        exact ⟨rfl, rfl⟩
      · intro gg w' hw hk
        go_simp
        exact ⟨rfl, rfl⟩
      · intro gg w' hw hk
        go_simp
        exact Hold.stays_call (HCl.out 0 2 w' (by omega) (by omega))
      · intro gg w' hw hk
        go_simp
        exact ⟨rfl, rfl⟩
      · intro gg w' hw hk
        go_simp
        exact ⟨rfl, rfl⟩
    intro gg w3 k3 hgg
    clear hgg
    simp only [Hold.fill, Hold.Leave.value, List.length_cons, List.length_nil, List.drop_succ_cons, List.drop_zero]
    go_simp
    go_wp2_with fail
    go_ret
    exact ⟨rfl, thru K1.out k3⟩
  · go_enter Try.func3, Try.ntmps3
    go_upto_region 3 with fail
    generalize hW : World.alloc w _ = W
    obtain ⟨b7, hb7⟩ : ∃ b, w.heap.size = b := ⟨_, rfl⟩
    have z7 : Lies W b7 (rlrow ⟨zeroRp, true, true, false⟩ none 0 0) := by rw [← hW, ← hb7]; exact Lies.new w _ _
    have k1 : Below w.heap.size w W := by rw [← hW]; exact ba1 _ _
    try rw [hb7]
    have K1 := Lib.hid k1
    have HZ := Lib.hid (fun w' (j : Below W.heap.size W w') => z7.below (by simp) j)
    clear hW hb7 z7 k1
    refine Hold.wp_region_hold [.val (.bool true), .val (.bool true), .val (.int .i64 0), .val (.int .i64 3), .val (.bool false), .val (.int .i64 0), .val (.agg #[.int .i64 0, .slice none 0 0, .bool false, .bool false, .bool true, .bool true, .bool false]), .val (.bool false), .val (.bool true), .val (.bool true), .val (.bool true), .val (.int .i64 3), .val (.int .i64 0), .val (.bool false), .val (.int .i64 0), .val (.int .i64 3), .val (.bool false), .val (.bool true), .val (.bool true)] (by kernel_rfl) (by kernel_rfl) (by kernel_rfl) ?_ ?_
    · simp only [Hold.fill, Hold.Leave.value]
      refine ⟨?_, ?_, ?_, ?_, ?_, ?_, ?_, ?_, ?_, ?_, ?_, ?_, ?_, ?_, ?_, ?_, ?_, ?_, ?_, trivial⟩
      · intro gg w' hw hk
        go_simp
        exact Hold.stays_call (HSp.out w')
      · intro gg w' hw hk
        go_simp
        exact ⟨rfl, rfl⟩
      · intro gg w' hw hk
        go_simp
        exact ⟨rfl, rfl⟩
      · intro gg w' hw hk
        go_simp
        exact ⟨rfl, rfl⟩
      · intro gg w' hw hk
        go_simp
        exact Hold.stays_call (HCl.out 0 3 w' (by omega) (by omega))
      · intro gg w' hw hk
        go_simp
        exact ⟨rfl, rfl⟩
      · intro gg w' hw hk
        have q0 : w'.cell? ⟨b7, 0, none⟩ = some (.int .i64 0) := (HZ.out w' hw).at' 0
        have q1 : w'.cell? ⟨b7, 1, none⟩ = some (.slice none 0 0) := (HZ.out w' hw).at' 1
        have q2 : w'.cell? ⟨b7, 2, none⟩ = some (.bool false) := (HZ.out w' hw).at' 2
        have q3 : w'.cell? ⟨b7, 3, none⟩ = some (.bool false) := (HZ.out w' hw).at' 3
        have q4 : w'.cell? ⟨b7, 4, none⟩ = some (.bool true) := (HZ.out w' hw).at' 4
        have q5 : w'.cell? ⟨b7, 5, none⟩ = some (.bool true) := (HZ.out w' hw).at' 5
        have q6 : w'.cell? ⟨b7, 6, none⟩ = some (.bool false) := (HZ.out w' hw).at' 6
        go_simp
        exact ⟨rfl, rfl⟩
      · intro gg w' hw hk
        go_simp
        exact Hold.stays_call (hrclears_is (by omega) (k := ⟨zeroRp, true, true, false⟩) (by decide) none 0 0 w')
      · intro gg w' hw hk
        go_simp
        exact ⟨rfl, rfl⟩
      · intro gg w' hw hk
        go_simp
        exact ⟨rfl, rfl⟩
      · intro gg w' hw hk
        go_simp
        exact ⟨rfl, rfl⟩
      · intro gg w' hw hk
        go_simp
        exact ⟨rfl, rfl⟩
      · intro gg w' hw hk
        go_simp
        exact ⟨rfl, rfl⟩
      · intro gg w' hw hk
        go_simp
        exact Hold.stays_call (HCl.out 3 0 w' (by omega) (by omega))
      · intro gg w' hw hk
        go_simp
        exact ⟨rfl, rfl⟩
      · intro gg w' hw hk
        go_simp
        exact ⟨rfl, rfl⟩
      · intro gg w' hw hk
        go_simp
        exact Hold.stays_call (HCl.out 0 3 w' (by omega) (by omega))
      · intro gg w' hw hk
        go_simp
        exact ⟨rfl, rfl⟩
      · intro gg w' hw hk
        go_simp
        exact ⟨rfl, rfl⟩
    intro gg w3 k3 hgg
    clear hgg
    simp only [Hold.fill, Hold.Leave.value, List.length_cons, List.length_nil, List.drop_succ_cons, List.drop_zero]
    go_simp
    go_wp2_with fail
    go_ret
    exact ⟨rfl, thru K1.out k3⟩
  · go_enter Try.func3, Try.ntmps3
    go_upto_region 3 with fail
    generalize hW : World.alloc w _ = W
    obtain ⟨b7, hb7⟩ : ∃ b, w.heap.size = b := ⟨_, rfl⟩
    have z7 : Lies W b7 (rlrow ⟨zeroRp, false, false, false⟩ none 0 0) := by rw [← hW, ← hb7]; exact Lies.new w _ _
    have k1 : Below w.heap.size w W := by rw [← hW]; exact ba1 _ _
    try rw [hb7]
    have K1 := Lib.hid k1
    have HZ := Lib.hid (fun w' (j : Below W.heap.size W w') => z7.below (by simp) j)
    clear hW hb7 z7 k1
    refine Hold.wp_region_hold [.val (.bool true), .val (.bool true), .val (.int .i64 1), .val (.int .i64 0), .val (.bool false), .val (.int .i64 1), .val (.agg #[.int .i64 0, .slice none 0 0, .bool false, .bool false, .bool false, .bool false, .bool false]), .val (.bool false), .val (.bool true), .val (.bool true), .val (.bool true), .val (.int .i64 0), .val (.int .i64 1), .val (.bool false), .val (.int .i64 1), .val (.int .i64 0), .val (.bool false), .val (.bool true), .val (.bool true)] (by kernel_rfl) (by kernel_rfl) (by kernel_rfl) ?_ ?_
    · simp only [Hold.fill, Hold.Leave.value]
      refine ⟨?_, ?_, ?_, ?_, ?_, ?_, ?_, ?_, ?_, ?_, ?_, ?_, ?_, ?_, ?_, ?_, ?_, ?_, ?_, trivial⟩
      · intro gg w' hw hk
        go_simp
        exact Hold.stays_call (HSp.out w')
      · intro gg w' hw hk
        go_simp
        exact ⟨rfl, rfl⟩
      · intro gg w' hw hk
        go_simp
        exact ⟨rfl, rfl⟩
      · intro gg w' hw hk
        go_simp
        exact ⟨rfl, rfl⟩
      · intro gg w' hw hk
        go_simp
        exact Hold.stays_call (HCl.out 1 0 w' (by omega) (by omega))
      · intro gg w' hw hk
        go_simp
        exact ⟨rfl, rfl⟩
      · intro gg w' hw hk
        have q0 : w'.cell? ⟨b7, 0, none⟩ = some (.int .i64 0) := (HZ.out w' hw).at' 0
        have q1 : w'.cell? ⟨b7, 1, none⟩ = some (.slice none 0 0) := (HZ.out w' hw).at' 1
        have q2 : w'.cell? ⟨b7, 2, none⟩ = some (.bool false) := (HZ.out w' hw).at' 2
        have q3 : w'.cell? ⟨b7, 3, none⟩ = some (.bool false) := (HZ.out w' hw).at' 3
        have q4 : w'.cell? ⟨b7, 4, none⟩ = some (.bool false) := (HZ.out w' hw).at' 4
        have q5 : w'.cell? ⟨b7, 5, none⟩ = some (.bool false) := (HZ.out w' hw).at' 5
        have q6 : w'.cell? ⟨b7, 6, none⟩ = some (.bool false) := (HZ.out w' hw).at' 6
        go_simp
        exact ⟨rfl, rfl⟩
      · intro gg w' hw hk
        go_simp
        exact Hold.stays_call (hrclears_is (by omega) (k := ⟨zeroRp, false, false, false⟩) (by decide) none 0 0 w')
      · intro gg w' hw hk
        go_simp
        exact ⟨rfl, rfl⟩
      · intro gg w' hw hk
        go_simp
        exact ⟨rfl, rfl⟩
      · intro gg w' hw hk
        go_simp
        exact ⟨rfl, rfl⟩
      · intro gg w' hw hk
        go_simp
        exact ⟨rfl, rfl⟩
      · intro gg w' hw hk
        go_simp
        exact ⟨rfl, rfl⟩
      · intro gg w' hw hk
        go_simp
        exact Hold.stays_call (HCl.out 0 1 w' (by omega) (by omega))
      · intro gg w' hw hk
        go_simp
        exact ⟨rfl, rfl⟩
      · intro gg w' hw hk
        go_simp
        exact ⟨rfl, rfl⟩
      · intro gg w' hw hk
        go_simp
        exact Hold.stays_call (HCl.out 1 0 w' (by omega) (by omega))
      · intro gg w' hw hk
        go_simp
        exact ⟨rfl, rfl⟩
      · intro gg w' hw hk
        go_simp
        exact ⟨rfl, rfl⟩
    intro gg w3 k3 hgg
    clear hgg
    simp only [Hold.fill, Hold.Leave.value, List.length_cons, List.length_nil, List.drop_succ_cons, List.drop_zero]
    go_simp
    go_wp2_with fail
    go_ret
    exact ⟨rfl, thru K1.out k3⟩
  · go_enter Try.func3, Try.ntmps3
    go_upto_region 3 with fail
    generalize hW : World.alloc w _ = W
    obtain ⟨b7, hb7⟩ : ∃ b, w.heap.size = b := ⟨_, rfl⟩
    have z7 : Lies W b7 (rlrow ⟨zeroRp, true, false, false⟩ none 0 0) := by rw [← hW, ← hb7]; exact Lies.new w _ _
    have k1 : Below w.heap.size w W := by rw [← hW]; exact ba1 _ _
    try rw [hb7]
    have K1 := Lib.hid k1
    have HZ := Lib.hid (fun w' (j : Below W.heap.size W w') => z7.below (by simp) j)
    clear hW hb7 z7 k1
    refine Hold.wp_region_hold [.val (.bool true), .val (.bool true), .val (.int .i64 1), .val (.int .i64 1), .val (.bool true), .val (.int .i64 1), .val (.agg #[.int .i64 0, .slice none 0 0, .bool false, .bool false, .bool true, .bool false, .bool false]), .val (.bool true), .val (.bool true), .val (.bool true), .val (.bool true), .val (.int .i64 1), .val (.int .i64 1), .val (.bool true), .val (.int .i64 1), .val (.int .i64 1), .val (.bool true), .val (.bool true), .val (.bool true)] (by kernel_rfl) (by kernel_rfl) (by kernel_rfl) ?_ ?_
    · simp only [Hold.fill, Hold.Leave.value]
      refine ⟨?_, ?_, ?_, ?_, ?_, ?_, ?_, ?_, ?_, ?_, ?_, ?_, ?_, ?_, ?_, ?_, ?_, ?_, ?_, trivial⟩
      · intro gg w' hw hk
        go_simp
        exact Hold.stays_call (HSp.out w')
      · intro gg w' hw hk
        go_simp
        exact ⟨rfl, rfl⟩
      · intro gg w' hw hk
        go_simp
        exact ⟨rfl, rfl⟩
      · intro gg w' hw hk
        go_simp
        exact ⟨rfl, rfl⟩
      · intro gg w' hw hk
        go_simp
        exact Hold.stays_call (HCl.out 1 1 w' (by omega) (by omega))
      · intro gg w' hw hk
        go_simp
        exact ⟨rfl, rfl⟩
      · intro gg w' hw hk
        have q0 : w'.cell? ⟨b7, 0, none⟩ = some (.int .i64 0) := (HZ.out w' hw).at' 0
        have q1 : w'.cell? ⟨b7, 1, none⟩ = some (.slice none 0 0) := (HZ.out w' hw).at' 1
        have q2 : w'.cell? ⟨b7, 2, none⟩ = some (.bool false) := (HZ.out w' hw).at' 2
        have q3 : w'.cell? ⟨b7, 3, none⟩ = some (.bool false) := (HZ.out w' hw).at' 3
        have q4 : w'.cell? ⟨b7, 4, none⟩ = some (.bool true) := (HZ.out w' hw).at' 4
        have q5 : w'.cell? ⟨b7, 5, none⟩ = some (.bool false) := (HZ.out w' hw).at' 5
        have q6 : w'.cell? ⟨b7, 6, none⟩ = some (.bool false) := (HZ.out w' hw).at' 6
        go_simp
        exact ⟨rfl, rfl⟩
      · intro gg w' hw hk
        go_simp
        exact Hold.stays_call (hrclears_is (by omega) (k := ⟨zeroRp, true, false, false⟩) (by decide) none 0 0 w')
      · intro gg w' hw hk
        go_simp
        exact ⟨rfl, rfl⟩
      · intro gg w' hw hk
        go_simp
        exact ⟨rfl, rfl⟩
      · intro gg w' hw hk
        go_simp
        exact ⟨rfl, rfl⟩
      · intro gg w' hw hk
        go_simp
        exact ⟨rfl, rfl⟩
      · intro gg w' hw hk
        go_simp
        exact ⟨rfl, rfl⟩
      · intro gg w' hw hk
        go_simp
        exact Hold.stays_call (HCl.out 1 1 w' (by omega) (by omega))
      · intro gg w' hw hk
        go_simp
        exact ⟨rfl, rfl⟩
      · intro gg w' hw hk
        go_simp
        exact ⟨rfl, rfl⟩
      · intro gg w' hw hk
        go_simp
        exact Hold.stays_call (HCl.out 1 1 w' (by omega) (by omega))
      · intro gg w' hw hk
        go_simp
        exact ⟨rfl, rfl⟩
      · intro gg w' hw hk
        go_simp
        exact ⟨rfl, rfl⟩
    intro gg w3 k3 hgg
    clear hgg
    simp only [Hold.fill, Hold.Leave.value, List.length_cons, List.length_nil, List.drop_succ_cons, List.drop_zero]
    go_simp
    go_wp2_with fail
    go_ret
    exact ⟨rfl, thru K1.out k3⟩
  · go_enter Try.func3, Try.ntmps3
    go_upto_region 3 with fail
    generalize hW : World.alloc w _ = W
    obtain ⟨b7, hb7⟩ : ∃ b, w.heap.size = b := ⟨_, rfl⟩
    have z7 : Lies W b7 (rlrow ⟨zeroRp, false, true, false⟩ none 0 0) := by rw [← hW, ← hb7]; exact Lies.new w _ _
    have k1 : Below w.heap.size w W := by rw [← hW]; exact ba1 _ _
    try rw [hb7]
    have K1 := Lib.hid k1
    have HZ := Lib.hid (fun w' (j : Below W.heap.size W w') => z7.below (by simp) j)
    clear hW hb7 z7 k1
    refine Hold.wp_region_hold [.val (.bool true), .val (.bool true), .val (.int .i64 1), .val (.int .i64 2), .val (.bool false), .val (.int .i64 1), .val (.agg #[.int .i64 0, .slice none 0 0, .bool false, .bool false, .bool false, .bool true, .bool false]), .val (.bool false), .val (.bool true), .val (.bool true), .val (.bool true), .val (.int .i64 2), .val (.int .i64 1), .val (.bool false), .val (.int .i64 1), .val (.int .i64 2), .val (.bool false), .val (.bool true), .val (.bool true)] (by kernel_rfl) (by kernel_rfl) (by kernel_rfl) ?_ ?_
    · simp only [Hold.fill, Hold.Leave.value]
      refine ⟨?_, ?_, ?_, ?_, ?_, ?_, ?_, ?_, ?_, ?_, ?_, ?_, ?_, ?_, ?_, ?_, ?_, ?_, ?_, trivial⟩
      · intro gg w' hw hk
        go_simp
        exact Hold.stays_call (HSp.out w')
      · intro gg w' hw hk
        go_simp
        exact ⟨rfl, rfl⟩
      · intro gg w' hw hk
        go_simp
        exact ⟨rfl, rfl⟩
      · intro gg w' hw hk
        go_simp
        exact ⟨rfl, rfl⟩
      · intro gg w' hw hk
        go_simp
        exact Hold.stays_call (HCl.out 1 2 w' (by omega) (by omega))
      · intro gg w' hw hk
        go_simp
        exact ⟨rfl, rfl⟩
      · intro gg w' hw hk
        have q0 : w'.cell? ⟨b7, 0, none⟩ = some (.int .i64 0) := (HZ.out w' hw).at' 0
        have q1 : w'.cell? ⟨b7, 1, none⟩ = some (.slice none 0 0) := (HZ.out w' hw).at' 1
        have q2 : w'.cell? ⟨b7, 2, none⟩ = some (.bool false) := (HZ.out w' hw).at' 2
        have q3 : w'.cell? ⟨b7, 3, none⟩ = some (.bool false) := (HZ.out w' hw).at' 3
        have q4 : w'.cell? ⟨b7, 4, none⟩ = some (.bool false) := (HZ.out w' hw).at' 4
        have q5 : w'.cell? ⟨b7, 5, none⟩ = some (.bool true) := (HZ.out w' hw).at' 5
        have q6 : w'.cell? ⟨b7, 6, none⟩ = some (.bool false) := (HZ.out w' hw).at' 6
        go_simp
        exact ⟨rfl, rfl⟩
      · intro gg w' hw hk
        go_simp
        exact Hold.stays_call (hrclears_is (by omega) (k := ⟨zeroRp, false, true, false⟩) (by decide) none 0 0 w')
      · intro gg w' hw hk
        go_simp
        exact ⟨rfl, rfl⟩
      · intro gg w' hw hk
        go_simp
        exact ⟨rfl, rfl⟩
      · intro gg w' hw hk
        go_simp
        exact ⟨rfl, rfl⟩
      · intro gg w' hw hk
        go_simp
        exact ⟨rfl, rfl⟩
      · intro gg w' hw hk
        go_simp
        exact ⟨rfl, rfl⟩
      · intro gg w' hw hk
        go_simp
        exact Hold.stays_call (HCl.out 2 1 w' (by omega) (by omega))
      · intro gg w' hw hk
        go_simp
        exact ⟨rfl, rfl⟩
      · intro gg w' hw hk
        go_simp
        exact ⟨rfl, rfl⟩
      · intro gg w' hw hk
        go_simp
        exact Hold.stays_call (HCl.out 1 2 w' (by omega) (by omega))
      · intro gg w' hw hk
        go_simp
        exact ⟨rfl, rfl⟩
      · intro gg w' hw hk
        go_simp
        exact ⟨rfl, rfl⟩
    intro gg w3 k3 hgg
    clear hgg
    simp only [Hold.fill, Hold.Leave.value, List.length_cons, List.length_nil, List.drop_succ_cons, List.drop_zero]
    go_simp
    go_wp2_with fail
    go_ret
    exact ⟨rfl, thru K1.out k3⟩
  · go_enter Try.func3, Try.ntmps3
    go_upto_region 3 with fail
    generalize hW : World.alloc w _ = W
    obtain ⟨b7, hb7⟩ : ∃ b, w.heap.size = b := ⟨_, rfl⟩
    have z7 : Lies W b7 (rlrow ⟨zeroRp, true, true, false⟩ none 0 0) := by rw [← hW, ← hb7]; exact Lies.new w _ _
    have k1 : Below w.heap.size w W := by rw [← hW]; exact ba1 _ _
    try rw [hb7]
    have K1 := Lib.hid k1
    have HZ := Lib.hid (fun w' (j : Below W.heap.size W w') => z7.below (by simp) j)
    clear hW hb7 z7 k1
    refine Hold.wp_region_hold [.val (.bool true), .val (.bool true), .val (.int .i64 1), .val (.int .i64 3), .val (.bool true), .val (.int .i64 1), .val (.agg #[.int .i64 0, .slice none 0 0, .bool false, .bool false, .bool true, .bool true, .bool false]), .val (.bool true), .val (.bool true), .val (.bool true), .val (.bool true), .val (.int .i64 3), .val (.int .i64 1), .val (.bool true), .val (.int .i64 1), .val (.int .i64 3), .val (.bool true), .val (.bool true), .val (.bool true)] (by kernel_rfl) (by kernel_rfl) (by kernel_rfl) ?_ ?_
    · simp only [Hold.fill, Hold.Leave.value]
      refine ⟨?_, ?_, ?_, ?_, ?_, ?_, ?_, ?_, ?_, ?_, ?_, ?_, ?_, ?_, ?_, ?_, ?_, ?_, ?_, trivial⟩
      · intro gg w' hw hk
        go_simp
        exact Hold.stays_call (HSp.out w')
      · intro gg w' hw hk
        go_simp
        exact ⟨rfl, rfl⟩
      · intro gg w' hw hk
        go_simp
        exact ⟨rfl, rfl⟩
      · intro gg w' hw hk
        go_simp
        exact ⟨rfl, rfl⟩
      · intro gg w' hw hk
        go_simp
        exact Hold.stays_call (HCl.out 1 3 w' (by omega) (by omega))
      · intro gg w' hw hk
        go_simp
        exact ⟨rfl, rfl⟩
      · intro gg w' hw hk
        have q0 : w'.cell? ⟨b7, 0, none⟩ = some (.int .i64 0) := (HZ.out w' hw).at' 0
        have q1 : w'.cell? ⟨b7, 1, none⟩ = some (.slice none 0 0) := (HZ.out w' hw).at' 1
        have q2 : w'.cell? ⟨b7, 2, none⟩ = some (.bool false) := (HZ.out w' hw).at' 2
        have q3 : w'.cell? ⟨b7, 3, none⟩ = some (.bool false) := (HZ.out w' hw).at' 3
        have q4 : w'.cell? ⟨b7, 4, none⟩ = some (.bool true) := (HZ.out w' hw).at' 4
        have q5 : w'.cell? ⟨b7, 5, none⟩ = some (.bool true) := (HZ.out w' hw).at' 5
        have q6 : w'.cell? ⟨b7, 6, none⟩ = some (.bool false) := (HZ.out w' hw).at' 6
        go_simp
        exact ⟨rfl, rfl⟩
      · intro gg w' hw hk
        go_simp
        exact Hold.stays_call (hrclears_is (by omega) (k := ⟨zeroRp, true, true, false⟩) (by decide) none 0 0 w')
      · intro gg w' hw hk
        go_simp
        exact ⟨rfl, rfl⟩
      · intro gg w' hw hk
        go_simp
        exact ⟨rfl, rfl⟩
      · intro gg w' hw hk
        go_simp
        exact ⟨rfl, rfl⟩
      · intro gg w' hw hk
        go_simp
        exact ⟨rfl, rfl⟩
      · intro gg w' hw hk
        go_simp
        exact ⟨rfl, rfl⟩
      · intro gg w' hw hk
        go_simp
        exact Hold.stays_call (HCl.out 3 1 w' (by omega) (by omega))
      · intro gg w' hw hk
        go_simp
        exact ⟨rfl, rfl⟩
      · intro gg w' hw hk
        go_simp
        exact ⟨rfl, rfl⟩
      · intro gg w' hw hk
        go_simp
        exact Hold.stays_call (HCl.out 1 3 w' (by omega) (by omega))
      · intro gg w' hw hk
        go_simp
        exact ⟨rfl, rfl⟩
      · intro gg w' hw hk
        go_simp
        exact ⟨rfl, rfl⟩
    intro gg w3 k3 hgg
    clear hgg
    simp only [Hold.fill, Hold.Leave.value, List.length_cons, List.length_nil, List.drop_succ_cons, List.drop_zero]
    go_simp
    go_wp2_with fail
    go_ret
    exact ⟨rfl, thru K1.out k3⟩
  · go_enter Try.func3, Try.ntmps3
    go_upto_region 3 with fail
    generalize hW : World.alloc w _ = W
    obtain ⟨b7, hb7⟩ : ∃ b, w.heap.size = b := ⟨_, rfl⟩
    have z7 : Lies W b7 (rlrow ⟨zeroRp, false, false, false⟩ none 0 0) := by rw [← hW, ← hb7]; exact Lies.new w _ _
    have k1 : Below w.heap.size w W := by rw [← hW]; exact ba1 _ _
    try rw [hb7]
    have K1 := Lib.hid k1
    have HZ := Lib.hid (fun w' (j : Below W.heap.size W w') => z7.below (by simp) j)
    clear hW hb7 z7 k1
    refine Hold.wp_region_hold [.val (.bool true), .val (.bool true), .val (.int .i64 2), .val (.int .i64 0), .val (.bool false), .val (.int .i64 2), .val (.agg #[.int .i64 0, .slice none 0 0, .bool false, .bool false, .bool false, .bool false, .bool false]), .val (.bool false), .val (.bool true), .val (.bool true), .val (.bool true), .val (.int .i64 0), .val (.int .i64 2), .val (.bool false), .val (.int .i64 2), .val (.int .i64 0), .val (.bool false), .val (.bool true), .val (.bool true)] (by kernel_rfl) (by kernel_rfl) (by kernel_rfl) ?_ ?_
    · simp only [Hold.fill, Hold.Leave.value]
      refine ⟨?_, ?_, ?_, ?_, ?_, ?_, ?_, ?_, ?_, ?_, ?_, ?_, ?_, ?_, ?_, ?_, ?_, ?_, ?_, trivial⟩
      · intro gg w' hw hk
        go_simp
        exact Hold.stays_call (HSp.out w')
      · intro gg w' hw hk
        go_simp
        exact ⟨rfl, rfl⟩
      · intro gg w' hw hk
        go_simp
        exact ⟨rfl, rfl⟩
      · intro gg w' hw hk
        go_simp
        exact ⟨rfl, rfl⟩
      · intro gg w' hw hk
        go_simp
        exact Hold.stays_call (HCl.out 2 0 w' (by omega) (by omega))
      · intro gg w' hw hk
        go_simp
        exact ⟨rfl, rfl⟩
      · intro gg w' hw hk
        have q0 : w'.cell? ⟨b7, 0, none⟩ = some (.int .i64 0) := (HZ.out w' hw).at' 0
        have q1 : w'.cell? ⟨b7, 1, none⟩ = some (.slice none 0 0) := (HZ.out w' hw).at' 1
        have q2 : w'.cell? ⟨b7, 2, none⟩ = some (.bool false) := (HZ.out w' hw).at' 2
        have q3 : w'.cell? ⟨b7, 3, none⟩ = some (.bool false) := (HZ.out w' hw).at' 3
        have q4 : w'.cell? ⟨b7, 4, none⟩ = some (.bool false) := (HZ.out w' hw).at' 4
        have q5 : w'.cell? ⟨b7, 5, none⟩ = some (.bool false) := (HZ.out w' hw).at' 5
        have q6 : w'.cell? ⟨b7, 6, none⟩ = some (.bool false) := (HZ.out w' hw).at' 6
        go_simp
        exact ⟨rfl, rfl⟩
      · intro gg w' hw hk
        go_simp
        exact Hold.stays_call (hrclears_is (by omega) (k := ⟨zeroRp, false, false, false⟩) (by decide) none 0 0 w')
      · intro gg w' hw hk
        go_simp
        exact ⟨rfl, rfl⟩
      · intro gg w' hw hk
        go_simp
        exact ⟨rfl, rfl⟩
      · intro gg w' hw hk
        go_simp
        exact ⟨rfl, rfl⟩
      · intro gg w' hw hk
        go_simp
        exact ⟨rfl, rfl⟩
      · intro gg w' hw hk
        go_simp
        exact ⟨rfl, rfl⟩
      · intro gg w' hw hk
        go_simp
        exact Hold.stays_call (HCl.out 0 2 w' (by omega) (by omega))
      · intro gg w' hw hk
        go_simp
        exact ⟨rfl, rfl⟩
      · intro gg w' hw hk
        go_simp
        exact ⟨rfl, rfl⟩
      · intro gg w' hw hk
        go_simp
        exact Hold.stays_call (HCl.out 2 0 w' (by omega) (by omega))
      · intro gg w' hw hk
        go_simp
        exact ⟨rfl, rfl⟩
      · intro gg w' hw hk
        go_simp
        exact ⟨rfl, rfl⟩
    intro gg w3 k3 hgg
    clear hgg
    simp only [Hold.fill, Hold.Leave.value, List.length_cons, List.length_nil, List.drop_succ_cons, List.drop_zero]
    go_simp
    go_wp2_with fail
    go_ret
    exact ⟨rfl, thru K1.out k3⟩
  · go_enter Try.func3, Try.ntmps3
    go_upto_region 3 with fail
    generalize hW : World.alloc w _ = W
    obtain ⟨b7, hb7⟩ : ∃ b, w.heap.size = b := ⟨_, rfl⟩
    have z7 : Lies W b7 (rlrow ⟨zeroRp, true, false, false⟩ none 0 0) := by rw [← hW, ← hb7]; exact Lies.new w _ _
    have k1 : Below w.heap.size w W := by rw [← hW]; exact ba1 _ _
    try rw [hb7]
    have K1 := Lib.hid k1
    have HZ := Lib.hid (fun w' (j : Below W.heap.size W w') => z7.below (by simp) j)
    clear hW hb7 z7 k1
    refine Hold.wp_region_hold [.val (.bool true), .val (.bool true), .val (.int .i64 2), .val (.int .i64 1), .val (.bool false), .val (.int .i64 2), .val (.agg #[.int .i64 0, .slice none 0 0, .bool false, .bool false, .bool true, .bool false, .bool false]), .val (.bool false), .val (.bool true), .val (.bool true), .val (.bool true), .val (.int .i64 1), .val (.int .i64 2), .val (.bool false), .val (.int .i64 2), .val (.int .i64 1), .val (.bool false), .val (.bool true), .val (.bool true)] (by kernel_rfl) (by kernel_rfl) (by kernel_rfl) ?_ ?_
    · simp only [Hold.fill, Hold.Leave.value]
      refine ⟨?_, ?_, ?_, ?_, ?_, ?_, ?_, ?_, ?_, ?_, ?_, ?_, ?_, ?_, ?_, ?_, ?_, ?_, ?_, trivial⟩
      · intro gg w' hw hk
        go_simp
        exact Hold.stays_call (HSp.out w')
      · intro gg w' hw hk
        go_simp
        exact ⟨rfl, rfl⟩
      · intro gg w' hw hk
        go_simp
        exact ⟨rfl, rfl⟩
      · intro gg w' hw hk
        go_simp
        exact ⟨rfl, rfl⟩
      · intro gg w' hw hk
        go_simp
        exact Hold.stays_call (HCl.out 2 1 w' (by omega) (by omega))
      · intro gg w' hw hk
        go_simp
        exact ⟨rfl, rfl⟩
      · intro gg w' hw hk
        have q0 : w'.cell? ⟨b7, 0, none⟩ = some (.int .i64 0) := (HZ.out w' hw).at' 0
        have q1 : w'.cell? ⟨b7, 1, none⟩ = some (.slice none 0 0) := (HZ.out w' hw).at' 1
        have q2 : w'.cell? ⟨b7, 2, none⟩ = some (.bool false) := (HZ.out w' hw).at' 2
        have q3 : w'.cell? ⟨b7, 3, none⟩ = some (.bool false) := (HZ.out w' hw).at' 3
        have q4 : w'.cell? ⟨b7, 4, none⟩ = some (.bool true) := (HZ.out w' hw).at' 4
        have q5 : w'.cell? ⟨b7, 5, none⟩ = some (.bool false) := (HZ.out w' hw).at' 5
        have q6 : w'.cell? ⟨b7, 6, none⟩ = some (.bool false) := (HZ.out w' hw).at' 6
        go_simp
        exact ⟨rfl, rfl⟩
      · intro gg w' hw hk
        go_simp
        exact Hold.stays_call (hrclears_is (by omega) (k := ⟨zeroRp, true, false, false⟩) (by decide) none 0 0 w')
      · intro gg w' hw hk
        go_simp
        exact ⟨rfl, rfl⟩
      · intro gg w' hw hk
        go_simp
        exact ⟨rfl, rfl⟩
      · intro gg w' hw hk
        go_simp
        exact ⟨rfl, rfl⟩
      · intro gg w' hw hk
        go_simp
        exact ⟨rfl, rfl⟩
      · intro gg w' hw hk
        go_simp
        exact ⟨rfl, rfl⟩
      · intro gg w' hw hk
        go_simp
        exact Hold.stays_call (HCl.out 1 2 w' (by omega) (by omega))
      · intro gg w' hw hk
        go_simp
        exact ⟨rfl, rfl⟩
      · intro gg w' hw hk
        go_simp
        exact ⟨rfl, rfl⟩
      · intro gg w' hw hk
        go_simp
        exact Hold.stays_call (HCl.out 2 1 w' (by omega) (by omega))
      · intro gg w' hw hk
        go_simp
        exact ⟨rfl, rfl⟩
      · intro gg w' hw hk
        go_simp
        exact ⟨rfl, rfl⟩
    intro gg w3 k3 hgg
    clear hgg
    simp only [Hold.fill, Hold.Leave.value, List.length_cons, List.length_nil, List.drop_succ_cons, List.drop_zero]
    go_simp
    go_wp2_with fail
    go_ret
    exact ⟨rfl, thru K1.out k3⟩
  · go_enter Try.func3, Try.ntmps3
    go_upto_region 3 with fail
    generalize hW : World.alloc w _ = W
    obtain ⟨b7, hb7⟩ : ∃ b, w.heap.size = b := ⟨_, rfl⟩
    have z7 : Lies W b7 (rlrow ⟨zeroRp, false, true, false⟩ none 0 0) := by rw [← hW, ← hb7]; exact Lies.new w _ _
    have k1 : Below w.heap.size w W := by rw [← hW]; exact ba1 _ _
    try rw [hb7]
    have K1 := Lib.hid k1
    have HZ := Lib.hid (fun w' (j : Below W.heap.size W w') => z7.below (by simp) j)
    clear hW hb7 z7 k1
    refine Hold.wp_region_hold [.val (.bool true), .val (.bool true), .val (.int .i64 2), .val (.int .i64 2), .val (.bool true), .val (.int .i64 2), .val (.agg #[.int .i64 0, .slice none 0 0, .bool false, .bool false, .bool false, .bool true, .bool false]), .val (.bool true), .val (.bool true), .val (.bool true), .val (.bool true), .val (.int .i64 2), .val (.int .i64 2), .val (.bool true), .val (.int .i64 2), .val (.int .i64 2), .val (.bool true), .val (.bool true), .val (.bool true)] (by kernel_rfl) (by kernel_rfl) (by kernel_rfl) ?_ ?_
    · simp only [Hold.fill, Hold.Leave.value]
      refine ⟨?_, ?_, ?_, ?_, ?_, ?_, ?_, ?_, ?_, ?_, ?_, ?_, ?_, ?_, ?_, ?_, ?_, ?_, ?_, trivial⟩
      · intro gg w' hw hk
        go_simp
        exact Hold.stays_call (HSp.out w')
      · intro gg w' hw hk
        go_simp
        exact ⟨rfl, rfl⟩
      · intro gg w' hw hk
        go_simp
        exact ⟨rfl, rfl⟩
      · intro gg w' hw hk
        go_simp
        exact ⟨rfl, rfl⟩
      · intro gg w' hw hk
        go_simp
        exact Hold.stays_call (HCl.out 2 2 w' (by omega) (by omega))
      · intro gg w' hw hk
        go_simp
        exact ⟨rfl, rfl⟩
      · intro gg w' hw hk
        have q0 : w'.cell? ⟨b7, 0, none⟩ = some (.int .i64 0) := (HZ.out w' hw).at' 0
        have q1 : w'.cell? ⟨b7, 1, none⟩ = some (.slice none 0 0) := (HZ.out w' hw).at' 1
        have q2 : w'.cell? ⟨b7, 2, none⟩ = some (.bool false) := (HZ.out w' hw).at' 2
        have q3 : w'.cell? ⟨b7, 3, none⟩ = some (.bool false) := (HZ.out w' hw).at' 3
        have q4 : w'.cell? ⟨b7, 4, none⟩ = some (.bool false) := (HZ.out w' hw).at' 4
        have q5 : w'.cell? ⟨b7, 5, none⟩ = some (.bool true) := (HZ.out w' hw).at' 5
        have q6 : w'.cell? ⟨b7, 6, none⟩ = some (.bool false) := (HZ.out w' hw).at' 6
        go_simp
        exact ⟨rfl, rfl⟩
      · intro gg w' hw hk
        go_simp
        exact Hold.stays_call (hrclears_is (by omega) (k := ⟨zeroRp, false, true, false⟩) (by decide) none 0 0 w')
      · intro gg w' hw hk
        go_simp
        exact ⟨rfl, rfl⟩
      · intro gg w' hw hk
        go_simp
        exact ⟨rfl, rfl⟩
      · intro gg w' hw hk
        go_simp
        exact ⟨rfl, rfl⟩
      · intro gg w' hw hk
        go_simp
        exact ⟨rfl, rfl⟩
      · intro gg w' hw hk
        go_simp
        exact ⟨rfl, rfl⟩
      · intro gg w' hw hk
        go_simp
        exact Hold.stays_call (HCl.out 2 2 w' (by omega) (by omega))
      · intro gg w' hw hk
        go_simp
        exact ⟨rfl, rfl⟩
      · intro gg w' hw hk
        go_simp
        exact ⟨rfl, rfl⟩
      · intro gg w' hw hk
        go_simp
        exact Hold.stays_call (HCl.out 2 2 w' (by omega) (by omega))
      · intro gg w' hw hk
        go_simp
        exact ⟨rfl, rfl⟩
      · intro gg w' hw hk
        go_simp
        exact ⟨rfl, rfl⟩
    intro gg w3 k3 hgg
    clear hgg
    simp only [Hold.fill, Hold.Leave.value, List.length_cons, List.length_nil, List.drop_succ_cons, List.drop_zero]
    go_simp
    go_wp2_with fail
    go_ret
    exact ⟨rfl, thru K1.out k3⟩
  · go_enter Try.func3, Try.ntmps3
    go_upto_region 3 with fail
    generalize hW : World.alloc w _ = W
    obtain ⟨b7, hb7⟩ : ∃ b, w.heap.size = b := ⟨_, rfl⟩
    have z7 : Lies W b7 (rlrow ⟨zeroRp, true, true, false⟩ none 0 0) := by rw [← hW, ← hb7]; exact Lies.new w _ _
    have k1 : Below w.heap.size w W := by rw [← hW]; exact ba1 _ _
    try rw [hb7]
    have K1 := Lib.hid k1
    have HZ := Lib.hid (fun w' (j : Below W.heap.size W w') => z7.below (by simp) j)
    clear hW hb7 z7 k1
    refine Hold.wp_region_hold [.val (.bool true), .val (.bool true), .val (.int .i64 2), .val (.int .i64 3), .val (.bool true), .val (.int .i64 2), .val (.agg #[.int .i64 0, .slice none 0 0, .bool false, .bool false, .bool true, .bool true, .bool false]), .val (.bool true), .val (.bool true), .val (.bool true), .val (.bool true), .val (.int .i64 3), .val (.int .i64 2), .val (.bool true), .val (.int .i64 2), .val (.int .i64 3), .val (.bool true), .val (.bool true), .val (.bool true)] (by kernel_rfl) (by kernel_rfl) (by kernel_rfl) ?_ ?_
    · simp only [Hold.fill, Hold.Leave.value]
      refine ⟨?_, ?_, ?_, ?_, ?_, ?_, ?_, ?_, ?_, ?_, ?_, ?_, ?_, ?_, ?_, ?_, ?_, ?_, ?_, trivial⟩
      · intro gg w' hw hk
        go_simp
        exact Hold.stays_call (HSp.out w')
      · intro gg w' hw hk
        go_simp
        exact ⟨rfl, rfl⟩
      · intro gg w' hw hk
        go_simp
        exact ⟨rfl, rfl⟩
      · intro gg w' hw hk
        go_simp
        exact ⟨rfl, rfl⟩
      · intro gg w' hw hk
        go_simp
        exact Hold.stays_call (HCl.out 2 3 w' (by omega) (by omega))
      · intro gg w' hw hk
        go_simp
        exact ⟨rfl, rfl⟩
      · intro gg w' hw hk
        have q0 : w'.cell? ⟨b7, 0, none⟩ = some (.int .i64 0) := (HZ.out w' hw).at' 0
        have q1 : w'.cell? ⟨b7, 1, none⟩ = some (.slice none 0 0) := (HZ.out w' hw).at' 1
        have q2 : w'.cell? ⟨b7, 2, none⟩ = some (.bool false) := (HZ.out w' hw).at' 2
        have q3 : w'.cell? ⟨b7, 3, none⟩ = some (.bool false) := (HZ.out w' hw).at' 3
        have q4 : w'.cell? ⟨b7, 4, none⟩ = some (.bool true) := (HZ.out w' hw).at' 4
        have q5 : w'.cell? ⟨b7, 5, none⟩ = some (.bool true) := (HZ.out w' hw).at' 5
        have q6 : w'.cell? ⟨b7, 6, none⟩ = some (.bool false) := (HZ.out w' hw).at' 6
        go_simp
        exact ⟨rfl, rfl⟩
      · intro gg w' hw hk
        go_simp
        exact Hold.stays_call (hrclears_is (by omega) (k := ⟨zeroRp, true, true, false⟩) (by decide) none 0 0 w')
      · intro gg w' hw hk
        go_simp
        exact ⟨rfl, rfl⟩
      · intro gg w' hw hk
        go_simp
        exact ⟨rfl, rfl⟩
      · intro gg w' hw hk
        go_simp
        exact ⟨rfl, rfl⟩
      · intro gg w' hw hk
        go_simp
        exact ⟨rfl, rfl⟩
      · intro gg w' hw hk
        go_simp
        exact ⟨rfl, rfl⟩
      · intro gg w' hw hk
        go_simp
        exact Hold.stays_call (HCl.out 3 2 w' (by omega) (by omega))
      · intro gg w' hw hk
        go_simp
        exact ⟨rfl, rfl⟩
      · intro gg w' hw hk
        go_simp
        exact ⟨rfl, rfl⟩
      · intro gg w' hw hk
        go_simp
        exact Hold.stays_call (HCl.out 2 3 w' (by omega) (by omega))
      · intro gg w' hw hk
        go_simp
        exact ⟨rfl, rfl⟩
      · intro gg w' hw hk
        go_simp
        exact ⟨rfl, rfl⟩
    intro gg w3 k3 hgg
    clear hgg
    simp only [Hold.fill, Hold.Leave.value, List.length_cons, List.length_nil, List.drop_succ_cons, List.drop_zero]
    go_simp
    go_wp2_with fail
    go_ret
    exact ⟨rfl, thru K1.out k3⟩
  · go_enter Try.func3, Try.ntmps3
    go_upto_region 3 with fail
    generalize hW : World.alloc w _ = W
    obtain ⟨b7, hb7⟩ : ∃ b, w.heap.size = b := ⟨_, rfl⟩
    have z7 : Lies W b7 (rlrow ⟨zeroRp, false, false, false⟩ none 0 0) := by rw [← hW, ← hb7]; exact Lies.new w _ _
    have k1 : Below w.heap.size w W := by rw [← hW]; exact ba1 _ _
    try rw [hb7]
    have K1 := Lib.hid k1
    have HZ := Lib.hid (fun w' (j : Below W.heap.size W w') => z7.below (by simp) j)
    clear hW hb7 z7 k1
    refine Hold.wp_region_hold [.val (.bool true), .val (.bool true), .val (.int .i64 3), .val (.int .i64 0), .val (.bool false), .val (.int .i64 3), .val (.agg #[.int .i64 0, .slice none 0 0, .bool false, .bool false, .bool false, .bool false, .bool false]), .val (.bool false), .val (.bool true), .val (.bool true), .val (.bool true), .val (.int .i64 0), .val (.int .i64 3), .val (.bool false), .val (.int .i64 3), .val (.int .i64 0), .val (.bool false), .val (.bool true), .val (.bool true)] (by kernel_rfl) (by kernel_rfl) (by kernel_rfl) ?_ ?_
    · simp only [Hold.fill, Hold.Leave.value]
      refine ⟨?_, ?_, ?_, ?_, ?_, ?_, ?_, ?_, ?_, ?_, ?_, ?_, ?_, ?_, ?_, ?_, ?_, ?_, ?_, trivial⟩
      · intro gg w' hw hk
        go_simp
        exact Hold.stays_call (HSp.out w')
      · intro gg w' hw hk
        go_simp
        exact ⟨rfl, rfl⟩
      · intro gg w' hw hk
        go_simp
        exact ⟨rfl, rfl⟩
      · intro gg w' hw hk
        go_simp
        exact ⟨rfl, rfl⟩
      · intro gg w' hw hk
        go_simp
        exact Hold.stays_call (HCl.out 3 0 w' (by omega) (by omega))
      · intro gg w' hw hk
        go_simp
        exact ⟨rfl, rfl⟩
      · intro gg w' hw hk
        have q0 : w'.cell? ⟨b7, 0, none⟩ = some (.int .i64 0) := (HZ.out w' hw).at' 0
        have q1 : w'.cell? ⟨b7, 1, none⟩ = some (.slice none 0 0) := (HZ.out w' hw).at' 1
        have q2 : w'.cell? ⟨b7, 2, none⟩ = some (.bool false) := (HZ.out w' hw).at' 2
        have q3 : w'.cell? ⟨b7, 3, none⟩ = some (.bool false) := (HZ.out w' hw).at' 3
        have q4 : w'.cell? ⟨b7, 4, none⟩ = some (.bool false) := (HZ.out w' hw).at' 4
        have q5 : w'.cell? ⟨b7, 5, none⟩ = some (.bool false) := (HZ.out w' hw).at' 5
        have q6 : w'.cell? ⟨b7, 6, none⟩ = some (.bool false) := (HZ.out w' hw).at' 6
        go_simp
        exact ⟨rfl, rfl⟩
      · intro gg w' hw hk
        go_simp
        exact Hold.stays_call (hrclears_is (by omega) (k := ⟨zeroRp, false, false, false⟩) (by decide) none 0 0 w')
      · intro gg w' hw hk
        go_simp
        exact ⟨rfl, rfl⟩
      · intro gg w' hw hk
        go_simp
        exact ⟨rfl, rfl⟩
      · intro gg w' hw hk
        go_simp
        exact ⟨rfl, rfl⟩
      · intro gg w' hw hk
        go_simp
        exact ⟨rfl, rfl⟩
      · intro gg w' hw hk
        go_simp
        exact ⟨rfl, rfl⟩
      · intro gg w' hw hk
        go_simp
        exact Hold.stays_call (HCl.out 0 3 w' (by omega) (by omega))
      · intro gg w' hw hk
        go_simp
        exact ⟨rfl, rfl⟩
      · intro gg w' hw hk
        go_simp
        exact ⟨rfl, rfl⟩
      · intro gg w' hw hk
        go_simp
        exact Hold.stays_call (HCl.out 3 0 w' (by omega) (by omega))
      · intro gg w' hw hk
        go_simp
        exact ⟨rfl, rfl⟩
      · intro gg w' hw hk
        go_simp
        exact ⟨rfl, rfl⟩
    intro gg w3 k3 hgg
    clear hgg
    simp only [Hold.fill, Hold.Leave.value, List.length_cons, List.length_nil, List.drop_succ_cons, List.drop_zero]
    go_simp
    go_wp2_with fail
    go_ret
    exact ⟨rfl, thru K1.out k3⟩
  · go_enter Try.func3, Try.ntmps3
    go_upto_region 3 with fail
    generalize hW : World.alloc w _ = W
    obtain ⟨b7, hb7⟩ : ∃ b, w.heap.size = b := ⟨_, rfl⟩
    have z7 : Lies W b7 (rlrow ⟨zeroRp, true, false, false⟩ none 0 0) := by rw [← hW, ← hb7]; exact Lies.new w _ _
    have k1 : Below w.heap.size w W := by rw [← hW]; exact ba1 _ _
    try rw [hb7]
    have K1 := Lib.hid k1
    have HZ := Lib.hid (fun w' (j : Below W.heap.size W w') => z7.below (by simp) j)
    clear hW hb7 z7 k1
    refine Hold.wp_region_hold [.val (.bool true), .val (.bool true), .val (.int .i64 3), .val (.int .i64 1), .val (.bool true), .val (.int .i64 3), .val (.agg #[.int .i64 0, .slice none 0 0, .bool false, .bool false, .bool true, .bool false, .bool false]), .val (.bool true), .val (.bool true), .val (.bool true), .val (.bool true), .val (.int .i64 1), .val (.int .i64 3), .val (.bool true), .val (.int .i64 3), .val (.int .i64 1), .val (.bool true), .val (.bool true), .val (.bool true)] (by kernel_rfl) (by kernel_rfl) (by kernel_rfl) ?_ ?_
    · simp only [Hold.fill, Hold.Leave.value]
      refine ⟨?_, ?_, ?_, ?_, ?_, ?_, ?_, ?_, ?_, ?_, ?_, ?_, ?_, ?_, ?_, ?_, ?_, ?_, ?_, trivial⟩
      · intro gg w' hw hk
        go_simp
        exact Hold.stays_call (HSp.out w')
      · intro gg w' hw hk
        go_simp
        exact ⟨rfl, rfl⟩
      · intro gg w' hw hk
        go_simp
        exact ⟨rfl, rfl⟩
      · intro gg w' hw hk
        go_simp
        exact ⟨rfl, rfl⟩
      · intro gg w' hw hk
        go_simp
        exact Hold.stays_call (HCl.out 3 1 w' (by omega) (by omega))
      · intro gg w' hw hk
        go_simp
        exact ⟨rfl, rfl⟩
      · intro gg w' hw hk
        have q0 : w'.cell? ⟨b7, 0, none⟩ = some (.int .i64 0) := (HZ.out w' hw).at' 0
        have q1 : w'.cell? ⟨b7, 1, none⟩ = some (.slice none 0 0) := (HZ.out w' hw).at' 1
        have q2 : w'.cell? ⟨b7, 2, none⟩ = some (.bool false) := (HZ.out w' hw).at' 2
        have q3 : w'.cell? ⟨b7, 3, none⟩ = some (.bool false) := (HZ.out w' hw).at' 3
        have q4 : w'.cell? ⟨b7, 4, none⟩ = some (.bool true) := (HZ.out w' hw).at' 4
        have q5 : w'.cell? ⟨b7, 5, none⟩ = some (.bool false) := (HZ.out w' hw).at' 5
        have q6 : w'.cell? ⟨b7, 6, none⟩ = some (.bool false) := (HZ.out w' hw).at' 6
        go_simp
        exact ⟨rfl, rfl⟩
      · intro gg w' hw hk
        go_simp
        exact Hold.stays_call (hrclears_is (by omega) (k := ⟨zeroRp, true, false, false⟩) (by decide) none 0 0 w')
      · intro gg w' hw hk
        go_simp
        exact ⟨rfl, rfl⟩
      · intro gg w' hw hk
        go_simp
        exact ⟨rfl, rfl⟩
      · intro gg w' hw hk
        go_simp
        exact ⟨rfl, rfl⟩
      · intro gg w' hw hk
        go_simp
        exact ⟨rfl, rfl⟩
      · intro gg w' hw hk
        go_simp
        exact ⟨rfl, rfl⟩
      · intro gg w' hw hk
        go_simp
        exact Hold.stays_call (HCl.out 1 3 w' (by omega) (by omega))
      · intro gg w' hw hk
        go_simp
        exact ⟨rfl, rfl⟩
      · intro gg w' hw hk
        go_simp
        exact ⟨rfl, rfl⟩
      · intro gg w' hw hk
        go_simp
        exact Hold.stays_call (HCl.out 3 1 w' (by omega) (by omega))
      · intro gg w' hw hk
        go_simp
        exact ⟨rfl, rfl⟩
      · intro gg w' hw hk
        go_simp
        exact ⟨rfl, rfl⟩
    intro gg w3 k3 hgg
    clear hgg
    simp only [Hold.fill, Hold.Leave.value, List.length_cons, List.length_nil, List.drop_succ_cons, List.drop_zero]
    go_simp
    go_wp2_with fail
    go_ret
    exact ⟨rfl, thru K1.out k3⟩
  · go_enter Try.func3, Try.ntmps3
    go_upto_region 3 with fail
    generalize hW : World.alloc w _ = W
    obtain ⟨b7, hb7⟩ : ∃ b, w.heap.size = b := ⟨_, rfl⟩
    have z7 : Lies W b7 (rlrow ⟨zeroRp, false, true, false⟩ none 0 0) := by rw [← hW, ← hb7]; exact Lies.new w _ _
    have k1 : Below w.heap.size w W := by rw [← hW]; exact ba1 _ _
    try rw [hb7]
    have K1 := Lib.hid k1
    have HZ := Lib.hid (fun w' (j : Below W.heap.size W w') => z7.below (by simp) j)
    clear hW hb7 z7 k1
    refine Hold.wp_region_hold [.val (.bool true), .val (.bool true), .val (.int .i64 3), .val (.int .i64 2), .val (.bool true), .val (.int .i64 3), .val (.agg #[.int .i64 0, .slice none 0 0, .bool false, .bool false, .bool false, .bool true, .bool false]), .val (.bool true), .val (.bool true), .val (.bool true), .val (.bool true), .val (.int .i64 2), .val (.int .i64 3), .val (.bool true), .val (.int .i64 3), .val (.int .i64 2), .val (.bool true), .val (.bool true), .val (.bool true)] (by kernel_rfl) (by kernel_rfl) (by kernel_rfl) ?_ ?_
    · simp only [Hold.fill, Hold.Leave.value]
      refine ⟨?_, ?_, ?_, ?_, ?_, ?_, ?_, ?_, ?_, ?_, ?_, ?_, ?_, ?_, ?_, ?_, ?_, ?_, ?_, trivial⟩
      · intro gg w' hw hk
        go_simp
        exact Hold.stays_call (HSp.out w')
      · intro gg w' hw hk
        go_simp
        exact ⟨rfl, rfl⟩
      · intro gg w' hw hk
        go_simp
        exact ⟨rfl, rfl⟩
      · intro gg w' hw hk
        go_simp
        exact ⟨rfl, rfl⟩
      · intro gg w' hw hk
        go_simp
        exact Hold.stays_call (HCl.out 3 2 w' (by omega) (by omega))
      · intro gg w' hw hk
        go_simp
        exact ⟨rfl, rfl⟩
      · intro gg w' hw hk
        have q0 : w'.cell? ⟨b7, 0, none⟩ = some (.int .i64 0) := (HZ.out w' hw).at' 0
        have q1 : w'.cell? ⟨b7, 1, none⟩ = some (.slice none 0 0) := (HZ.out w' hw).at' 1
        have q2 : w'.cell? ⟨b7, 2, none⟩ = some (.bool false) := (HZ.out w' hw).at' 2
        have q3 : w'.cell? ⟨b7, 3, none⟩ = some (.bool false) := (HZ.out w' hw).at' 3
        have q4 : w'.cell? ⟨b7, 4, none⟩ = some (.bool false) := (HZ.out w' hw).at' 4
        have q5 : w'.cell? ⟨b7, 5, none⟩ = some (.bool true) := (HZ.out w' hw).at' 5
        have q6 : w'.cell? ⟨b7, 6, none⟩ = some (.bool false) := (HZ.out w' hw).at' 6
        go_simp
        exact ⟨rfl, rfl⟩
      · intro gg w' hw hk
        go_simp
        exact Hold.stays_call (hrclears_is (by omega) (k := ⟨zeroRp, false, true, false⟩) (by decide) none 0 0 w')
      · intro gg w' hw hk
        go_simp
        exact ⟨rfl, rfl⟩
      · intro gg w' hw hk
        go_simp
        exact ⟨rfl, rfl⟩
      · intro gg w' hw hk
        go_simp
        exact ⟨rfl, rfl⟩
      · intro gg w' hw hk
        go_simp
        exact ⟨rfl, rfl⟩
      · intro gg w' hw hk
        go_simp
        exact ⟨rfl, rfl⟩
      · intro gg w' hw hk
        go_simp
        exact Hold.stays_call (HCl.out 2 3 w' (by omega) (by omega))
      · intro gg w' hw hk
        go_simp
        exact ⟨rfl, rfl⟩
      · intro gg w' hw hk
        go_simp
        exact ⟨rfl, rfl⟩
      · intro gg w' hw hk
        go_simp
        exact Hold.stays_call (HCl.out 3 2 w' (by omega) (by omega))
      · intro gg w' hw hk
        go_simp
        exact ⟨rfl, rfl⟩
      · intro gg w' hw hk
        go_simp
        exact ⟨rfl, rfl⟩
    intro gg w3 k3 hgg
    clear hgg
    simp only [Hold.fill, Hold.Leave.value, List.length_cons, List.length_nil, List.drop_succ_cons, List.drop_zero]
    go_simp
    go_wp2_with fail
    go_ret
    exact ⟨rfl, thru K1.out k3⟩
  · go_enter Try.func3, Try.ntmps3
    go_upto_region 3 with fail
    generalize hW : World.alloc w _ = W
    obtain ⟨b7, hb7⟩ : ∃ b, w.heap.size = b := ⟨_, rfl⟩
    have z7 : Lies W b7 (rlrow ⟨zeroRp, true, true, false⟩ none 0 0) := by rw [← hW, ← hb7]; exact Lies.new w _ _
    have k1 : Below w.heap.size w W := by rw [← hW]; exact ba1 _ _
    try rw [hb7]
    have K1 := Lib.hid k1
    have HZ := Lib.hid (fun w' (j : Below W.heap.size W w') => z7.below (by simp) j)
    clear hW hb7 z7 k1
    refine Hold.wp_region_hold [.val (.bool true), .val (.bool true), .val (.int .i64 3), .val (.int .i64 3), .val (.bool true), .val (.int .i64 3), .val (.agg #[.int .i64 0, .slice none 0 0, .bool false, .bool false, .bool true, .bool true, .bool false]), .val (.bool true), .val (.bool true), .val (.bool true), .val (.bool true), .val (.int .i64 3), .val (.int .i64 3), .val (.bool true), .val (.int .i64 3), .val (.int .i64 3), .val (.bool true), .val (.bool true), .val (.bool true)] (by kernel_rfl) (by kernel_rfl) (by kernel_rfl) ?_ ?_
    · simp only [Hold.fill, Hold.Leave.value]
      refine ⟨?_, ?_, ?_, ?_, ?_, ?_, ?_, ?_, ?_, ?_, ?_, ?_, ?_, ?_, ?_, ?_, ?_, ?_, ?_, trivial⟩
      · intro gg w' hw hk
        go_simp
        exact Hold.stays_call (HSp.out w')
      · intro gg w' hw hk
        go_simp
        exact ⟨rfl, rfl⟩
      · intro gg w' hw hk
        go_simp
        exact ⟨rfl, rfl⟩
      · intro gg w' hw hk
        go_simp
        exact ⟨rfl, rfl⟩
      · intro gg w' hw hk
        go_simp
        exact Hold.stays_call (HCl.out 3 3 w' (by omega) (by omega))
      · intro gg w' hw hk
        go_simp
        exact ⟨rfl, rfl⟩
      · intro gg w' hw hk
        have q0 : w'.cell? ⟨b7, 0, none⟩ = some (.int .i64 0) := (HZ.out w' hw).at' 0
        have q1 : w'.cell? ⟨b7, 1, none⟩ = some (.slice none 0 0) := (HZ.out w' hw).at' 1
        have q2 : w'.cell? ⟨b7, 2, none⟩ = some (.bool false) := (HZ.out w' hw).at' 2
        have q3 : w'.cell? ⟨b7, 3, none⟩ = some (.bool false) := (HZ.out w' hw).at' 3
        have q4 : w'.cell? ⟨b7, 4, none⟩ = some (.bool true) := (HZ.out w' hw).at' 4
        have q5 : w'.cell? ⟨b7, 5, none⟩ = some (.bool true) := (HZ.out w' hw).at' 5
        have q6 : w'.cell? ⟨b7, 6, none⟩ = some (.bool false) := (HZ.out w' hw).at' 6
        go_simp
        exact ⟨rfl, rfl⟩
      · intro gg w' hw hk
        go_simp
        exact Hold.stays_call (hrclears_is (by omega) (k := ⟨zeroRp, true, true, false⟩) (by decide) none 0 0 w')
      · intro gg w' hw hk
        go_simp
        exact ⟨rfl, rfl⟩
      · intro gg w' hw hk
        go_simp
        exact ⟨rfl, rfl⟩
      · intro gg w' hw hk
        go_simp
        exact ⟨rfl, rfl⟩
      · intro gg w' hw hk
        go_simp
        exact ⟨rfl, rfl⟩
      · intro gg w' hw hk
        go_simp
        exact ⟨rfl, rfl⟩
      · intro gg w' hw hk
        go_simp
        exact Hold.stays_call (HCl.out 3 3 w' (by omega) (by omega))
      · intro gg w' hw hk
        go_simp
        exact ⟨rfl, rfl⟩
      · intro gg w' hw hk
        go_simp
        exact ⟨rfl, rfl⟩
      · intro gg w' hw hk
        go_simp
        exact Hold.stays_call (HCl.out 3 3 w' (by omega) (by omega))
      · intro gg w' hw hk
        go_simp
        exact ⟨rfl, rfl⟩
      · intro gg w' hw hk
        go_simp
        exact ⟨rfl, rfl⟩
    intro gg w3 k3 hgg
    clear hgg
    simp only [Hold.fill, Hold.Leave.value, List.length_cons, List.length_nil, List.drop_succ_cons, List.drop_zero]
    go_simp
    go_wp2_with fail
    go_ret
    exact ⟨rfl, thru K1.out k3⟩

end

end Go.Proofs.Ytfomhdhiibcdfaa.Ahead
