/- The contract of slices.CompactFunc, on a part of a row. -/
import Derived.Test.YtfomhdhiibcdfaaGreatPart41
namespace Go.Proofs.YtfomhdhiibcdfaaGreat.Shelf
open Go.RowKit Go.Sort Go.Proofs.YtfomhdhiibcdfaaGreat.Rect Go.Proofs.YtfomhdhiibcdfaaGreat.More
set_option linter.unusedVariables false

set_option maxRecDepth 100000 in
set_option maxHeartbeats 2000000 in
theorem compact_any (g n c B b0 m cc : Nat) (pre mid post : List Sh) (w : World) (h : MineE encSh 120 w B (some ⟨g, 0, none⟩) n c (pre ++ mid ++ post)) (hb : pre.length * 3 = b0) (hm : mid.length = m) (h2 : 2 ≤ m) (hcc : m ≤ cc) (hc63 : cc ≤ 9223372036854775807) (hn : n ≤ 1000000) :
    Calls Tryz.prog 96 #[.slice (some ⟨g, b0, none⟩) m cc, .func (.func 97) #[] #[]] w (Compacted w B g n c b0 cc pre mid post) := by
  have hnl := MineE.len h
  have hmn : m ≤ n := by rw [List.length_append, List.length_append] at hnl; omega
  have HM := Lib.hid h
  have HB := Lib.hid hb
  have HL := Lib.hid hm
  have eg : ∀ args w, (callFunc 97 args).run Tryz.prog w = .ok (.enter 97 args) w := enters_of Tryz.func97 (by kernel_rfl) rfl
  have hm2 : ¬ (m : Int) < 2 := by omega
  clear h hb hm hnl
  go_enter Tryz.func96, Tryz.ntmps96
  go_wp2_with fail
  go_loopw [5] (fun i wr => ∃ q : Nat, q + 1 ≤ m ∧ i = .int .i64 ((q : Int) + 1) ∧ Hid (compL (mid.take (q + 1)) = mid.take (q + 1) ∧ Below w.heap.size w wr)) (fun i _ => m - (intOf i).toNat)
  case atStart => exact ⟨0, by omega, rfl, Lib.hid ⟨compL_one (by rw [HL.out]; omega), Below.refl _ _⟩⟩
  case round =>
    obtain ⟨q, hq, rfl, H⟩ := hrel
    by_cases hlt : q + 1 < m
    · have hki : (q : Int) + 1 < (m : Int) := by omega
      have hk0 : ¬ (q : Int) + 1 < 0 := by omega
      have hk9 : (0 : Int) ≤ (q : Int) + 1 := by omega
      have hwq : IntKind.i64.wrap (q : Int) = (q : Int) := IntWalk.i64_in _ (by omega)
      have hq0 : ¬ (q : Int) < 0 := by omega
      have hq1 : (q : Int) < (m : Int) := by omega
      have htn : ((q : Int) + 1).toNat = q + 1 := by omega
      have hwm : IntKind.i64.wrap ((q : Int) + 1 - 1) = (q : Int) := by rw [IntWalk.i64_in _ (by omega)]; omega
      obtain ⟨y, hy⟩ : ∃ y, mid[q + 1]? = some y := ⟨_, List.getElem?_eq_getElem (by rw [HL.out]; omega)⟩
      obtain ⟨z, hz⟩ : ∃ z, mid[q]? = some z := ⟨_, List.getElem?_eq_getElem (by rw [HL.out]; omega)⟩
      have HY := Lib.hid hy
      have HZ := Lib.hid hz
      have my : (pre ++ mid ++ post)[pre.length + (q + 1)]? = some y := by
        rw [List.append_assoc, List.getElem?_append_right (by omega), Nat.add_sub_cancel_left, List.getElem?_append_left (by rw [HL.out]; omega)]; exact hy
      have mz : (pre ++ mid ++ post)[pre.length + q]? = some z := by
        rw [List.append_assoc, List.getElem?_append_right (by omega), Nat.add_sub_cancel_left, List.getElem?_append_left (by rw [HL.out]; omega)]; exact hz
      have CY := Lib.hid (fun w' (k : Below w.heap.size w w') => row_at (MineE.below HM.out k) my (j := b0 + (q + 1) * 3) (by rw [← HB.out]; omega))
      have CZ := Lib.hid (fun w' (k : Below w.heap.size w w') => row_at (MineE.below HM.out k) mz (j := b0 + q * 3) (by rw [← HB.out]; omega))
      clear hy hz my mz
      go_upto_region 6 with fail
      refine Hold.wp_region_hold [.val (.func (.func 97) #[] #[]), .val (.slice (some ⟨g, b0, none⟩) m cc), .val (.int .i64 ((q : Int) + 1)), .val (.pointer (some ⟨g, b0 + (q + 1) * 3, none⟩)), .val (.agg #[.int .i64 y.1, .int .i64 y.2.1, .int .i64 y.2.2]), .val (.slice (some ⟨g, b0, none⟩) m cc), .val (.int .i64 ((q : Int) + 1)), .val (.int .i64 (q : Int)), .val (.pointer (some ⟨g, b0 + q * 3, none⟩)), .val (.agg #[.int .i64 z.1, .int .i64 z.2.1, .int .i64 z.2.2])] (by kernel_rfl) (by kernel_rfl) (by kernel_rfl) ?_ ?_
      · simp only [Hold.fill, Hold.Leave.value]
        refine ⟨?_, ?_, ?_, ?_, ?_, ?_, ?_, ?_, ?_, ?_, trivial⟩
        · intro gg w' hw hk
          go_simp
          exact ⟨rfl, rfl⟩
        · intro gg w' hw hk
          go_simp
          exact ⟨rfl, rfl⟩
        · intro gg w' hw hk
          go_simp
          exact ⟨rfl, rfl⟩
        · intro gg w' hw hk
          go_simp
          exact ⟨rfl, rfl⟩
        · intro gg w' hw hk
          have q0 := (CY.out w' (thru H.out.2 hw)).1
          have q1 := (CY.out w' (thru H.out.2 hw)).2.1
          have q2 := (CY.out w' (thru H.out.2 hw)).2.2
          go_simp
          exact ⟨rfl, rfl⟩
        · intro gg w' hw hk
          go_simp
          exact ⟨rfl, rfl⟩
        · intro gg w' hw hk
          go_simp
          exact ⟨rfl, rfl⟩
        · intro gg w' hw hk
          go_simp
          exact ⟨rfl, rfl⟩
        · intro gg w' hw hk
          go_simp
          exact ⟨rfl, rfl⟩
        · intro gg w' hw hk
          have q0 := (CZ.out w' (thru H.out.2 hw)).1
          have q1 := (CZ.out w' (thru H.out.2 hw)).2.1
          have q2 := (CZ.out w' (thru H.out.2 hw)).2.2
          go_simp
          exact ⟨rfl, rfl⟩
      intro gg w2 k2 hgg
      clear hgg
      simp only [Hold.fill, Hold.Leave.value, List.length_cons, List.length_nil, List.drop_succ_cons, List.drop_zero]
      have K2 := Lib.hid (thru H.out.2 k2)
      clear k2
      have hal := alike_any y z w2
      obtain ⟨v, hv⟩ : ∃ v, decide (y.2 = z.2) = v := ⟨_, rfl⟩
      rw [hv] at hal
      have HA := Lib.hid hal
      have HVV := Lib.hid hv
      clear hal hv
      cases v
      · go_wp2_with (first
          | (go_at_call 97; refine HA.out.mono ?_; rintro e w3 ⟨rfl, k3⟩; have K3 := Lib.hid (thru K2.out k3); clear k3))
        go_roundw
        case rel => exact ⟨q + 1, by omega, by go_num, Lib.hid ⟨by
          have e := of_decide_eq_false HVV.out
          rw [compL_next HY.out HZ.out, if_neg e, H.out.1, show q + 1 + 1 = (q + 1) + 1 from rfl, List.take_add_one (l := mid) (i := q + 1), HY.out]; rfl, K3.out⟩⟩
        case measure => simp [intOf]; omega
      · have HE := Lib.hid (of_decide_eq_true HVV.out)
        obtain ⟨m2, rfl⟩ : ∃ m2, m = (q + 1) + m2 := ⟨m - (q + 1), by omega⟩
        have hs1 : ¬ (cc = q + 1) := by omega
        have hs2 : (q : Int) + 1 ≤ ((q + 1 + m2 : Nat) : Int) := by omega
        go_wp2_with (first
          | (go_at_call 97; refine HA.out.mono ?_; rintro e w3 ⟨rfl, k3⟩; have K3 := Lib.hid (thru K2.out k3); clear k3))
        clear HA HVV K2 CY CZ hki hk0 hk9 hwq hq0 hq1 htn hwm hs1 hs2
        obtain ⟨b1, hb1⟩ : ∃ b1, b0 + (q + 1) * 3 = b1 := ⟨_, rfl⟩
        obtain ⟨c1, hc1⟩ : ∃ c1, cc - (q + 1) = c1 := ⟨_, rfl⟩
        rw [hb1, hc1]
        have C0 := Lib.hid (show Comp2 B g n c pre mid post w w3 (q + 1) (q + 1) from by
          have e1 : compL (mid.take (q + 2)) = mid.take (q + 1) := by rw [compL_next HY.out HZ.out, if_pos HE.out, List.append_nil]; exact H.out.1
          refine ⟨by rw [show q + 1 + 1 = q + 2 from rfl, e1, List.length_take, HL.out]; omega, Nat.le_refl _, ?_, (grown_of_below K3.out).but _⟩
          rw [show q + 1 + 1 = q + 2 from rfl, e1, List.take_append_drop]
          exact MineE.below HM.out K3.out)
        have HB1 := Lib.hid (⟨hb1, hc1, hcc, hlt⟩ : b0 + (q + 1) * 3 = b1 ∧ cc - (q + 1) = c1 ∧ q + 1 + m2 ≤ cc ∧ q + 1 < q + 1 + m2)
        have hsm : ((q + 1 + m2 : Nat) : Int) ≤ 1000000 := by omega
        clear hb1 hc1 hq hlt hcc hmn h2 hm2
        go_loopw [5, 7] (fun s5 s7 wr => ∃ k j : Nat, j + 1 ≤ m2 ∧ s5 = .int .i64 (k : Int) ∧ s7 = .int .i64 ((j : Int) + 1) ∧ Hid (Comp2 B g n c pre mid post w wr k (q + 1 + j))) (fun _ s7 _ => m2 - (intOf s7).toNat)
        case atStart => exact ⟨q + 1, 0, by have := HB1.out.2.2.2; omega, by simp, rfl, C0⟩
        case round =>
          clear C0 K3
          obtain ⟨k, j, hj, rfl, rfl, HC⟩ := hrel
          by_cases hjl : j + 1 < m2
          · have hji : (j : Int) + 1 < (m2 : Int) := by omega
            have hj0 : ¬ (j : Int) + 1 < 0 := by omega
            have hj9 : (0 : Int) ≤ (j : Int) + 1 := by omega
            have hj1 : ¬ (j : Int) < 0 := by omega
            have hj2 : (j : Int) < (m2 : Int) := by omega
            have hjn : ((j : Int) + 1).toNat = j + 1 := by omega
            have hwm : IntKind.i64.wrap ((j : Int) + 1 - 1) = (j : Int) := by rw [IntWalk.i64_in _ (by omega)]; omega
            have hwj : IntKind.i64.wrap (j : Int) = (j : Int) := IntWalk.i64_in _ (by omega)
            obtain ⟨y2, hy2⟩ : ∃ y, mid[q + 1 + j + 1]? = some y := ⟨_, List.getElem?_eq_getElem (by rw [HL.out]; omega)⟩
            obtain ⟨z2, hz2⟩ : ∃ z, mid[q + 1 + j]? = some z := ⟨_, List.getElem?_eq_getElem (by rw [HL.out]; omega)⟩
            have HY2 := Lib.hid hy2
            have HZ2 := Lib.hid hz2
            have hkk : k ≤ q + 1 + j := HC.out.lt
            have my := comp_at (pre := pre) (post := post) HC.out.len rfl (show k ≤ q + 1 + j + 1 by omega) hy2
            have mz := comp_at (pre := pre) (post := post) HC.out.len rfl hkk hz2
            have CY := Lib.hid (fun w' (kb : Below wr.heap.size wr w') => row_at (MineE.below HC.out.row kb) my (j := b1 + (j + 1) * 3) (by rw [← HB1.out.1, ← HB.out]; omega))
            have CZ := Lib.hid (fun w' (kb : Below wr.heap.size wr w') => row_at (MineE.below HC.out.row kb) mz (j := b1 + j * 3) (by rw [← HB1.out.1, ← HB.out]; omega))
            clear hy2 hz2 my mz
            go_upto_region 11 with fail
            refine Hold.wp_region_hold [.val (.func (.func 97) #[] #[]), .val (.slice (some ⟨g, b1, none⟩) m2 c1), .val (.int .i64 ((j : Int) + 1)), .val (.pointer (some ⟨g, b1 + (j + 1) * 3, none⟩)), .val (.agg #[.int .i64 y2.1, .int .i64 y2.2.1, .int .i64 y2.2.2]), .val (.slice (some ⟨g, b1, none⟩) m2 c1), .val (.int .i64 ((j : Int) + 1)), .val (.int .i64 (j : Int)), .val (.pointer (some ⟨g, b1 + j * 3, none⟩)), .val (.agg #[.int .i64 z2.1, .int .i64 z2.2.1, .int .i64 z2.2.2])] (by kernel_rfl) (by kernel_rfl) (by kernel_rfl) ?_ ?_
            · simp only [Hold.fill, Hold.Leave.value]
              refine ⟨?_, ?_, ?_, ?_, ?_, ?_, ?_, ?_, ?_, ?_, trivial⟩
              · intro gg w' hw hk
                go_simp
                exact ⟨rfl, rfl⟩
              · intro gg w' hw hk
                go_simp
                exact ⟨rfl, rfl⟩
              · intro gg w' hw hk
                go_simp
                exact ⟨rfl, rfl⟩
              · intro gg w' hw hk
                go_simp
                exact ⟨rfl, rfl⟩
              · intro gg w' hw hk
                have q0 := (CY.out w' hw).1
                have q1 := (CY.out w' hw).2.1
                have q2 := (CY.out w' hw).2.2
                go_simp
                exact ⟨rfl, rfl⟩
              · intro gg w' hw hk
                go_simp
                exact ⟨rfl, rfl⟩
              · intro gg w' hw hk
                go_simp
                exact ⟨rfl, rfl⟩
              · intro gg w' hw hk
                go_simp
                exact ⟨rfl, rfl⟩
              · intro gg w' hw hk
                go_simp
                exact ⟨rfl, rfl⟩
              · intro gg w' hw hk
                have q0 := (CZ.out w' hw).1
                have q1 := (CZ.out w' hw).2.1
                have q2 := (CZ.out w' hw).2.2
                go_simp
                exact ⟨rfl, rfl⟩
            intro gg w4 k4 hgg
            clear hgg
            simp only [Hold.fill, Hold.Leave.value, List.length_cons, List.length_nil, List.drop_succ_cons, List.drop_zero]
            have K4 := Lib.hid k4
            clear k4 CY CZ
            have hal := alike_any y2 z2 w4
            obtain ⟨v2, hv2⟩ : ∃ v, decide (y2.2 = z2.2) = v := ⟨_, rfl⟩
            rw [hv2] at hal
            have HA2 := Lib.hid hal
            have HV2 := Lib.hid hv2
            clear hal hv2
            cases v2
            · -- unlike: it is kept
              have hku : (k : Int) < (q : Int) + 1 + (m2 : Int) := by omega
              have hku0 : ¬ (k : Int) < 0 := by omega
              have hmk : k < mid.length := by rw [HL.out]; omega
              have hwk : IntKind.i64.wrap ((k : Int) + 1) = (k : Int) + 1 := IntWalk.i64_in _ (by omega)
              obtain ⟨o, ho⟩ : ∃ o, mid[k]? = some o := ⟨_, List.getElem?_eq_getElem hmk⟩
              have mo := comp_at (pre := pre) (post := post) HC.out.len rfl (Nat.le_refl k) ho
              have CY := Lib.hid (fun w' (kb : Below wr.heap.size wr w') => row_at (MineE.below HC.out.row kb) (comp_at (pre := pre) (post := post) HC.out.len rfl (show k ≤ q + 1 + j + 1 by omega) HY2.out) (j := b1 + (j + 1) * 3) (by rw [← HB1.out.1, ← HB.out]; omega))
              have CO := Lib.hid (fun w' (kb : Below wr.heap.size wr w') => row_at (MineE.below HC.out.row kb) mo (j := b0 + k * 3) (by rw [← HB.out]; omega))
              have RP := Lib.hid (fun w' (kb : Below wr.heap.size wr w') => row_put (MineE.below HC.out.row kb) mo (j := b0 + k * 3) (by rw [← HB.out]; omega) y2)
              have FZ := Lib.hid (fun w' (kb : Below wr.heap.size wr w') i => MineE.frozen (MineE.below HC.out.row kb) i)
              clear ho mo
              go_wp2_with (first
                | (go_at_call 97; refine HA2.out.mono ?_; rintro e w5 ⟨rfl, k5⟩; have K5 := Lib.hid (thru K4.out k5); obtain ⟨q0, q1, q2⟩ := CY.out w5 K5.out; obtain ⟨o0, o1, o2⟩ := CO.out w5 K5.out; have f0 := FZ.out w5 K5.out (b0 + k * 3); have f1 := FZ.out w5 K5.out (b0 + k * 3 + 1); have f2 := FZ.out w5 K5.out (b0 + k * 3 + 2); clear k5))
              go_roundw
              case rel =>
                refine ⟨k + 1, j + 1, by omega, by go_num, by go_num, Lib.hid ?_⟩
                have e := of_decide_eq_false HV2.out
                have e1 : compL (mid.take (q + 1 + j + 2)) = compL (mid.take (q + 1 + j + 1)) ++ [y2] := by rw [compL_next HY2.out HZ2.out, if_neg e]
                obtain ⟨r1, r2⟩ := RP.out w5 K5.out
                refine ⟨by rw [show q + 1 + (j + 1) + 1 = q + 1 + j + 2 by omega, e1, List.length_append, HC.out.len]; rfl, by omega, ?_, (HC.out.grown.trans ((grown_of_below K5.out).but _)).trans r2⟩
                rw [show q + 1 + (j + 1) + 1 = q + 1 + j + 2 by omega, e1, ← comp_set HC.out.len hmk y2]
                exact r1
              case measure => simp [intOf]; omega
            · go_wp2_with (first
                | (go_at_call 97; refine HA2.out.mono ?_; rintro e w5 ⟨rfl, k5⟩; have K5 := Lib.hid (thru K4.out k5); clear k5))
              go_roundw
              case rel =>
                refine ⟨k, j + 1, by omega, rfl, by go_num, Lib.hid ?_⟩
                have e := of_decide_eq_true HV2.out
                have e1 : compL (mid.take (q + 1 + j + 2)) = compL (mid.take (q + 1 + j + 1)) := by rw [compL_next HY2.out HZ2.out, if_pos e, List.append_nil]
                refine ⟨by rw [show q + 1 + (j + 1) + 1 = q + 1 + j + 2 by omega, e1]; exact HC.out.len, by omega, ?_, HC.out.grown.trans ((grown_of_below K5.out).but _)⟩
                rw [show q + 1 + (j + 1) + 1 = q + 1 + j + 2 by omega, e1]
                exact MineE.below HC.out.row K5.out
              case measure => simp [intOf]; omega
          · obtain rfl : m2 = j + 1 := by omega
            have htk : mid.take (q + 1 + j + 1) = mid := List.take_of_length_le (by rw [HL.out]; omega)
            have hcl := HC.out.len
            have hrow := HC.out.row
            have hkk : k ≤ q + 1 + j := HC.out.lt
            rw [htk] at hcl hrow
            have hpl : (pre ++ (compL mid ++ mid.drop k) ++ post).length = n := MineE.len hrow
            have hdl : (mid.drop k).length = q + 1 + (j + 1) - k := by rw [List.length_drop, HL.out]
            have hpl2 : pre.length + (k + (q + 1 + (j + 1) - k) + post.length) = n := by
              rw [List.append_assoc, List.length_append, List.length_append, List.length_append, hdl, hcl] at hpl; exact hpl
            have hcap := (mine_block hrow).choose_spec.2.2.1
            obtain ⟨w6, r6, m6, g6⟩ := run_clear_E infoPs 0 (.agg #[.int .i64 0, .int .i64 0, .int .i64 0]) ((0, (0, 0)) : Sh) zeroSh rfl hrow (pre.length + k) (q + 1 + (j + 1) - k) (cc - k) (by omega) (by omega) (by omega)
            have R6 : (Builtin.clear_ #[121] 0 #[.slice (some ⟨g, b0 + k * 3, none⟩) (q + 1 + (j + 1) - k) (cc - k)]).run Tryz.prog wr = .ok (.tuple #[]) w6 := by
              have e : b0 + k * 3 = (pre.length + k) * 3 := by rw [← HB.out]; omega
              rw [e]; exact r6
            have HE6 := Lib.hid (show Compacted w B g n c b0 cc pre mid post (.returned (.slice (some ⟨g, b0, none⟩) k cc)) w6 from by
              refine ⟨by rw [hcl], ⟨List.replicate (q + 1 + (j + 1) - k) (0, (0, 0)), by rw [List.length_replicate, hcl, HL.out]; omega, ?_⟩, HC.out.grown.trans g6⟩
              have e1 : (pre ++ (compL mid ++ mid.drop k) ++ post).take (pre.length + k) = pre ++ compL mid := by
                rw [List.append_assoc, List.take_length_add_append, List.append_assoc, List.take_append_of_le_length (by omega), List.take_of_length_le (by omega)]
              have e2 : (pre ++ (compL mid ++ mid.drop k) ++ post).drop (pre.length + k + (q + 1 + (j + 1) - k)) = post := by
                have : pre.length + k + (q + 1 + (j + 1) - k) = (pre ++ (compL mid ++ mid.drop k)).length := by rw [List.length_append, List.length_append, hcl, hdl]; omega
                rw [this, List.drop_left]
              rw [e1, e2, show max n (pre.length + k + (q + 1 + (j + 1) - k)) = n by omega] at m6
              rw [← List.append_assoc pre (compL mid)]
              exact m6)
            clear hcl hrow hpl hdl hpl2 hcap r6 m6 g6 htk
            have hb4 : ¬ (cc = k) := by have := HB1.out.2.2.1; omega
            have hb5 : (k : Int) ≤ (q : Int) + 1 + ((j : Int) + 1) := by omega
            have hb6 : ¬ (k : Int) < 0 := by omega
            have hb7 : k ≤ q + 1 + (j + 1) := by omega
            have hb8 : k ≤ cc := by have := HB1.out.2.2.1; omega
            have hb9 : (k : Int) ≤ (cc : Int) := by omega
            go_wp2_with fail
            go_ret
            exact HE6.out
    · obtain rfl : m = q + 1 := by omega
      go_wp2_with fail
      go_ret
      have e1 : mid.take (q + 1) = mid := List.take_of_length_le (by rw [HL.out]; exact Nat.le_refl _)
      have e2 : compL mid = mid := by have := H.out.1; rwa [e1] at this
      refine ⟨by rw [e2, HL.out]; rfl, ⟨[], by rw [e2]; rfl, ?_⟩, (grown_of_below H.out.2).but _⟩
      rw [e2, List.append_nil]
      exact MineE.below HM.out H.out.2

end Go.Proofs.YtfomhdhiibcdfaaGreat.Shelf
