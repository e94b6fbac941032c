/- slices.Insert of one shelf into a new row; Insert as a whole. -/
import Derived.Test.YtfomhdhiibcdfaaGreatPart25
namespace Go.Proofs.YtfomhdhiibcdfaaGreat.Shelf
open Go.RowKit Go.Sort Go.Proofs.YtfomhdhiibcdfaaGreat.Rect Go.Proofs.YtfomhdhiibcdfaaGreat.More
set_option linter.unusedVariables false

set_option maxRecDepth 100000 in
set_option maxHeartbeats 600000 in
theorem insert_grow (g n c B i vb : Nat) (xs : List Sh) (x : Sh) (w : World) (h : MineE encSh 120 w B (some ⟨g, 0, none⟩) n c xs) (hi : i < n) (hc : c < n + 1) (hn : n < 1000000) (hB : B ≤ w.heap.size) (hv : w.heap[vb]? = some (.cells (encSh.cells x).toArray 120 (0, 0))) :
    Calls Tryz.prog 95 #[.slice (some ⟨g, 0, none⟩) n c, .int .i64 (i : Int), .slice (some ⟨vb, 0, none⟩) 1 1] w (Inserted w B g n (xs.take i ++ x :: xs.drop i)) := by
  obtain ⟨cur, hb1, hb2, hb3, hb4, hb5, hb6⟩ := mine_block h
  obtain rfl : c = n := by omega
  have hl := MineE.len h
  obtain ⟨i0, hi0, hz0, hz1, hz2⟩ := info_parts (show (Tryz.prog.info? 120).map (fun i => (i.zero, i.size, i.bytes)) = some (some (.agg #[.int .i64 0, .int .i64 0, .int .i64 0]), 3, 24) by kernel_rfl)
  have hold : (Builtin.firstCells i0.size i (.slice (some ⟨g, 0, none⟩) i c)).run Tryz.prog w.drew = .ok ((xs.take i).flatMap encSh.cells).toArray w.drew := by
    rw [hz1]
    refine run_firstCells_some w.drew 3 i ⟨g, 0, none⟩ i c _ (by rw [encSh.flat_len, List.length_take, Nat.min_eq_left (by omega)]; rfl) (fun j v hj => ?_)
    have := mine_src (MineE.drew (mine_trunc h (show i ≤ c by omega))) 0 j v (by rw [List.drop_zero]; exact hj)
    rwa [Nat.zero_mul] at this
  have hrz := Lib.run_append_grow_zeros w 121 3 121 120 i0 _ .i64 .i64 Tryz.underlying121 Tryz.underlying3 hi0 hz0 (some ⟨g, 0, none⟩) i c _ hold (c + 1 - i) (by omega) (by rw [hz1]; omega) (by omega) (by omega) (by rw [hz2]; omega) (by rw [hz2]; exact growslice_fits (by omega) (by omega))
  rw [show i + (c + 1 - i) = c + 1 by omega] at hrz
  obtain ⟨G, hG⟩ : ∃ G, grownCap w (c + 1) c 120 = G := ⟨_, rfl⟩
  have hGn : c + 1 ≤ G := by rw [← hG]; exact grownCap_ge w _ _ _
  have hGm : G ≤ maxLen := by rw [← hG]; exact grownCap_le_maxLen w _ _ _ (by unfold maxLen; omega)
  have hG63 : G ≤ 9223372036854775807 := by unfold maxLen at hGm; omega
  rw [hG] at hrz
  obtain ⟨W, hW⟩ : ∃ W, w.heap.size = W := ⟨_, rfl⟩
  obtain ⟨w1, hw1⟩ : ∃ w1, (w.drew.alloc (.cells (((xs.take i).flatMap encSh.cells).toArray ++ Builtin.zeroCells (Value.agg #[.int .i64 0, .int .i64 0, .int .i64 0]).cells (c + 1 - i) ++ Builtin.zeroCells (Value.agg #[.int .i64 0, .int .i64 0, .int .i64 0]).cells (G - (c + 1))) 120)) = w1 := ⟨_, rfl⟩
  rw [hw1, hW] at hrz
  have hz : ∀ m, (Builtin.zeroCells (Value.agg #[.int .i64 0, .int .i64 0, .int .i64 0]).cells m).toList = (List.replicate m ((0, (0, 0)) : Sh)).flatMap encSh.cells := fun m => zeroCells_flat encSh (0, (0, 0)) _ rfl m
  have m1 : MineE encSh 120 w1 B (some ⟨W, 0, none⟩) (c + 1) G (xs.take i ++ List.replicate (c + 1 - i) ((0, (0, 0)) : Sh)) := by
    have hg1 := heap_alloc_new w.drew (.cells (((xs.take i).flatMap encSh.cells).toArray ++ Builtin.zeroCells (Value.agg #[.int .i64 0, .int .i64 0, .int .i64 0]).cells (c + 1 - i) ++ Builtin.zeroCells (Value.agg #[.int .i64 0, .int .i64 0, .int .i64 0]).cells (G - (c + 1))) 120)
    rw [hw1, show w.drew.heap.size = W from hW] at hg1
    have e0 : (((xs.take i).flatMap encSh.cells).toArray ++ Builtin.zeroCells (Value.agg #[.int .i64 0, .int .i64 0, .int .i64 0]).cells (c + 1 - i) ++ Builtin.zeroCells (Value.agg #[.int .i64 0, .int .i64 0, .int .i64 0]).cells (G - (c + 1))).toList
        = (xs.take i ++ List.replicate (c + 1 - i) ((0, (0, 0)) : Sh) ++ List.replicate (G - (c + 1)) ((0, (0, 0)) : Sh)).flatMap encSh.cells := by
      rw [Array.toList_append, Array.toList_append, hz, hz, List.flatMap_append, List.flatMap_append]
    have e1 : (xs.take i ++ List.replicate (c + 1 - i) ((0, (0, 0)) : Sh)).length = c + 1 := by
      rw [List.length_append, List.length_take, List.length_replicate, hl]; omega
    refine mine_of hg1 (by omega) hGn hGm ?_ ?_ e1
    · rw [← Array.length_toList, e0, encSh.flat_len, List.length_append, e1, List.length_replicate]
      congr 1; omega
    · rw [e0, ← flat_take, List.take_append_of_le_length (by omega), List.take_of_length_le (by omega)]
  have hWg : g ≠ W := by have := (MineE.lt h g rfl).2; omega
  have g1 : w.grownBy w1 (some g) := by
    rw [← hw1]
    exact World.grownBy.trans (b := w.drew) ⟨rfl, rfl, rfl, Nat.le_refl _, fun _ _ _ => rfl⟩ (World.grownBy_alloc _ _ _)
  have hv1 : w1.heap[vb]? = some (.cells (encSh.cells x).toArray 120 (0, 0)) := by
    rw [← hw1]
    exact ((World.grownBy_alloc w.drew _ none).block vb (Array.getElem?_eq_some_iff.1 hv).1 (by simp)).trans hv
  obtain ⟨w2, r2, m2, g2⟩ := run_copy_E infoPs 3 m1 i [x] (by omega) (by simp; omega) (c + 1 - i) (G - i) 1 1 ⟨vb, 0, none⟩ (by simp only [Nat.min_def, List.length_singleton]; split <;> omega) (src_one hv1)
  rw [show max (c + 1) (i + ([x] : List Sh).length) = c + 1 by simp; omega, show i + ([x] : List Sh).length = i + 1 from rfl] at m2
  have mg2 : MineE encSh 120 w2 B (some ⟨g, 0, none⟩) c c xs := by
    have := MineE.alloc (MineE.drew h) (.cells (((xs.take i).flatMap encSh.cells).toArray ++ Builtin.zeroCells (Value.agg #[.int .i64 0, .int .i64 0, .int .i64 0]).cells (c + 1 - i) ++ Builtin.zeroCells (Value.agg #[.int .i64 0, .int .i64 0, .int .i64 0]).cells (G - (c + 1))) 120)
    rw [hw1] at this
    exact MineE.kept this g2 (fun k e q => by simp [blk] at e q; omega)
  have RZ := Lib.hid (fun ty => (show (Builtin.append_ #[121, 3] ty #[.slice (some ⟨g, 0, none⟩) i c, .int .i64 ((c : Int) + 1 - (i : Int))]).run Tryz.prog w = .ok (.slice (some ⟨W, 0, none⟩) (c + 1) G) w1 by
    rw [show (c : Int) + 1 - (i : Int) = ((c + 1 - i : Nat) : Int) by omega]; exact hrz))
  have R2 : (Builtin.copy_ #[121, 121] 3 #[.slice (some ⟨W, i * 3, none⟩) (c + 1 - i) (G - i), .slice (some ⟨vb, 0, none⟩) 1 1]).run Tryz.prog w1 = .ok (.int .i64 1) w2 := r2
  have HE := Lib.hid (⟨m2, mg2, g1, g2, hWg, hW, hl, hi, hGn⟩ : MineE encSh 120 w2 B (some ⟨W, 0, none⟩) (c + 1) G _ ∧ MineE encSh 120 w2 B (some ⟨g, 0, none⟩) c c xs ∧ w.grownBy w1 (some g) ∧ w1.grownBy w2 (some W) ∧ g ≠ W ∧ w.heap.size = W ∧ xs.length = c ∧ i < c ∧ c + 1 ≤ G)
  clear hb1 hb2 hb3 hb4 hb5 hb6 hi0 hz0 hz1 hz2 hold hrz hz m1 g1 hv1 r2 m2 mg2 g2 hv hw1 hG hGm hl h cur hWg hB
  have hz2 : ¬ ((i : Int) = (c : Int)) := by omega
  have hin : i ≤ c := by omega
  have hb3 : (i : Int) ≤ (c : Int) := by omega
  have hb5 : (i : Int) ≤ (c : Int) + 1 := by omega
  have hb6 : (i : Int) + 1 ≤ (c : Int) + 1 := by omega
  have hw1 : IntKind.i64.wrap ((i : Int) + 1) = (i : Int) + 1 := IntWalk.i64_in _ (by omega)
  have htn : ((i : Int) + 1).toNat = i + 1 := by omega
  have hb1 : (0 : Int) ≤ (i : Int) + 1 := by omega
  have hb2 : ¬ (G = i + 1) := by omega
  have hb4 : ¬ (c = i) := by omega
  have hb7 : ¬ (G = i) := by omega
  clear hW hi
  go_enter Tryz.func95, Tryz.ntmps95
  go_upto_region 11 with (first
    | (at_builtin; refine wpList_append_at _ rfl _ _ 121 3 rfl _ _ rfl rfl (RZ.out _) ?_))
  refine Hold.wp_region_hold [.val (.slice (some ⟨W, 0, none⟩) (c + 1) G), .val (.int .i64 (i : Int)), .val (.int .i64 1), .val (.int .i64 ((i : Int) + 1)), .val (.slice (some ⟨W, (i + 1) * 3, none⟩) (c + 1 - (i + 1)) (G - (i + 1))), .val (.slice (some ⟨g, 0, none⟩) c c), .val (.int .i64 (i : Int)), .val (.slice (some ⟨g, i * 3, none⟩) (c - i) (c - i))] (by kernel_rfl) (by kernel_rfl) (by kernel_rfl) ?_ ?_
  · simp only [Hold.fill, Hold.Leave.value]
    refine ⟨?_, ?_, ?_, ?_, ?_, ?_, ?_, ?_, trivial⟩ <;> (intro gg w' hw hk; go_simp; first | exact ⟨rfl, rfl⟩ | skip)
  intro gg w3 k3 hgg
  clear hgg
  simp only [Hold.fill, Hold.Leave.value, List.length_cons, List.length_nil, List.drop_succ_cons, List.drop_zero]
  obtain ⟨q1, q2, q3, q4, q5, q6, q7, q8, q9⟩ := HE.out
  have m3 := MineE.below q1 k3
  have mg3 := MineE.below q2 k3
  have hdl : (xs.drop i).length = c - i := by rw [List.length_drop, q7]
  obtain ⟨w4, r4, m4, g4⟩ := run_copy_E infoPs 3 m3 (i + 1) (xs.drop i) (by omega) (by omega) (c + 1 - (i + 1)) (G - (i + 1)) (c - i) (c - i) ⟨g, i * 3, none⟩ (by rw [hdl]; simp only [Nat.min_def]; split <;> omega) (mine_src mg3 i)
  rw [show max (c + 1) (i + 1 + (xs.drop i).length) = c + 1 by omega, ins_list2 xs _ x i (by omega) (by rw [List.length_replicate, q7])] at m4
  have R4 : (Builtin.copy_ #[121, 121] 3 #[.slice (some ⟨W, (i + 1) * 3, none⟩) (c + 1 - (i + 1)) (G - (i + 1)), .slice (some ⟨g, i * 3, none⟩) (c - i) (c - i)]).run Tryz.prog w3 = .ok (.int .i64 ((xs.drop i).length : Int)) w4 := r4
  have R4b := R4
  rw [show c + 1 - (i + 1) = c - i by omega] at R4b
  generalize ((xs.drop i).length : Int) = qz at R4 R4b
  have HX := Lib.hid (⟨m4, q3.andThen (q4.trans (((grown_of_below k3).but _).trans g4)) (fun j e => .inl (by injection e with e; omega)), q6⟩ : MineE encSh 120 w4 B (some ⟨W, 0, none⟩) (c + 1) G (xs.take i ++ x :: xs.drop i) ∧ w.grownBy w4 (some g) ∧ w.heap.size = W)
  clear q1 q2 q3 q4 q5 q6 q7 q8 q9 m3 mg3 hdl r4 m4 g4 k3
  go_wp2_with fail
  go_ret
  exact ⟨W, G, rfl, HX.out.1, HX.out.2.1, .inr HX.out.2.2.symm⟩

theorem insert_any (g n c B i vb : Nat) (xs : List Sh) (x : Sh) (w : World) (h : MineE encSh 120 w B (some ⟨g, 0, none⟩) n c xs) (hi : i ≤ n) (hn : n < 1000000) (hB : B ≤ w.heap.size) (hv : w.heap[vb]? = some (.cells (encSh.cells x).toArray 120 (0, 0))) (hne : vb ≠ g) :
    Calls Tryz.prog 95 #[.slice (some ⟨g, 0, none⟩) n c, .int .i64 (i : Int), .slice (some ⟨vb, 0, none⟩) 1 1] w (Inserted w B g n (xs.take i ++ x :: xs.drop i)) := by
  by_cases h1 : i < n
  · by_cases h2 : n + 1 ≤ c
    · exact insert_shift g n c B i vb xs x w h h1 h2 hn hB hv hne
    · exact insert_grow g n c B i vb xs x w h h1 (by omega) hn hB hv
  · obtain rfl : i = n := by omega
    have hl := MineE.len h
    have := insert_end g i c B vb xs x w h hn hB hv
    rwa [List.take_of_length_le (by omega), List.drop_of_length_le (by omega)]

end Go.Proofs.YtfomhdhiibcdfaaGreat.Shelf
