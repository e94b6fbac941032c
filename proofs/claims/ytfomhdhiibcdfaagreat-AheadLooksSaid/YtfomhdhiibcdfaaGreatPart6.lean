/- The contract of Check. -/
import Derived.Test.YtfomhdhiibcdfaaGreatPart5
import Derived.Laws.EntriesVeiled
namespace Go.Proofs.YtfomhdhiibcdfaaGreat.Record
open Go.RowKit Go.Sort

theorem drop_at {α : Type} {l : List α} {k : Nat} {x : α} (h : l[k]? = some x) : l.drop k = x :: l.drop (k + 1) := by
  obtain ⟨hl, he⟩ := List.getElem?_eq_some_iff.1 h
  rw [List.drop_eq_getElem_cons hl, he]

theorem pick_true {l : List (Bool × Int)} {k : Nat} {s v : Int} (hi : l[k]? = some (true, s)) (h : pickN (l.drop k) = v) : s = v := by
  rw [drop_at hi] at h; exact h

theorem pick_false {l : List (Bool × Int)} {k : Nat} {s v : Int} (hi : l[k]? = some (false, s)) (h : pickN (l.drop k) = v) : pickN (l.drop (k + 1)) = v := by
  rw [drop_at hi] at h; exact h

/-- A new rule's block, and what was there before. -/
theorem rule_in {w W : World} {x y : Value} {T : TypeId} (hW : w.alloc (.cells #[x, y] T) = W) : Below w.heap.size w W ∧ W.heap.size = w.heap.size + 1 ∧ W.cell? ⟨w.heap.size, 0, none⟩ = some x ∧ W.cell? ⟨w.heap.size, 1, none⟩ = some y := by
  subst hW
  exact ⟨ba1 _ _, by simp, by simp [go_sem], by simp [go_sem]⟩

set_option maxHeartbeats 2000000 in
theorem check_is (b : Bx) (v : Int) (hv : pickN (brokenOf b) = v) (w : World) :
    Calls Tryz.prog 56 #[b.v] w fun e w' => e = .returned (.int .i64 v) ∧ Below w.heap.size w w' := by
  have HV := Lib.hid hv
  clear hv
  go_enter Tryz.func56, Tryz.ntmps56
  go_wp2_with fail
  refine (rules_any b _).mono ?_; rintro e w1 ⟨⟨q, g, a, rfl, rd⟩, k1⟩
  have RD := Lib.hid rd
  have KW := Lib.hid (thru (ba1 _ _) k1)
  clear rd k1
  go_wp2_with fail
  go_loopw [8] (fun i wr => ∃ k : Nat, k ≤ 8 ∧ i = .int .i64 k ∧ Hid (pickN ((brokenOf b).drop k) = v ∧ Below w.heap.size w wr ∧ Ready wr q g a b)) (fun i _ => 8 - (intOf i).toNat)
  case atStart => exact ⟨0, Nat.zero_le _, rfl, Lib.hid ⟨HV.out, KW.out, RD.out⟩⟩
  case round wr =>
    obtain ⟨k, hk, rfl, H⟩ := hrel
    clear RD KW
    obtain rfl | rfl | rfl | rfl | rfl | rfl | rfl | rfl | rfl : k = 0 ∨ k = 1 ∨ k = 2 ∨ k = 3 ∨ k = 4 ∨ k = 5 ∨ k = 6 ∨ k = 7 ∨ k = 8 := by omega
    · obtain ⟨z, hz⟩ : ∃ z, (brokenOf b)[0]? = some (z, 4) := ⟨_, rfl⟩
      have c0 : wr.cell? ⟨q, 0, none⟩ = some (.int .i64 4) := H.out.2.2.2.2.1
      have c1 : wr.cell? ⟨q, 1, none⟩ = some (.func (.func 79) #[] #[.pointer (some ⟨g, 0, none⟩)]) := H.out.2.2.2.2.2.1
      have HZ := Lib.hid hz
      clear hz
      cases z
      · go_wp2_with fail
        generalize hW : World.alloc wr _ = W
        obtain ⟨kW, sW, d0, d1⟩ := rule_in hW
        have KB := Lib.hid (thru H.out.2.1 kW)
        have RD := Lib.hid (H.out.2.2.below kW)
        clear hW kW
        refine (closure_is 0 _ _ _ q g a b W RD.out _ HZ.out RD.out.2.2.2.1).mono ?_; rintro e w2 ⟨rfl, k2⟩
        replace KB := Lib.hid (thru KB.out k2)
        replace RD := Lib.hid (RD.out.below k2)
        clear k2 d0 d1
        go_wp2_with fail
        go_roundw
        case rel => exact ⟨0 + 1, by omega, rfl, Lib.hid ⟨pick_false HZ.out H.out.1, KB.out, RD.out⟩⟩
        case measure => simp [intOf]
      · go_wp2_with fail
        generalize hW : World.alloc wr _ = W
        obtain ⟨kW, sW, d0, d1⟩ := rule_in hW
        have KB := Lib.hid (thru H.out.2.1 kW)
        have RD := Lib.hid (H.out.2.2.below kW)
        clear hW kW
        refine (closure_is 0 _ _ _ q g a b W RD.out _ HZ.out RD.out.2.2.2.1).mono ?_; rintro e w2 ⟨rfl, k2⟩
        replace KB := Lib.hid (thru KB.out k2)
        have d2 : w2.cell? ⟨wr.heap.size, 0, none⟩ = some (.int .i64 4) := by rw [k2.cell (p := ⟨wr.heap.size, 0, none⟩) (by simp only []; omega)]; exact d0
        clear k2 d0 d1
        go_wp2_with fail
        go_ret
        exact ⟨ret_int (pick_true HZ.out H.out.1), KB.out⟩
    · obtain ⟨z, hz⟩ : ∃ z, (brokenOf b)[1]? = some (z, 10) := ⟨_, rfl⟩
      have c0 : wr.cell? ⟨q, 2, none⟩ = some (.int .i64 10) := H.out.2.2.2.2.2.2.1
      have c1 : wr.cell? ⟨q, 3, none⟩ = some (.func (.func 81) #[] #[.pointer (some ⟨g, 0, none⟩)]) := H.out.2.2.2.2.2.2.2.1
      have HZ := Lib.hid hz
      clear hz
      cases z
      · go_wp2_with fail
        generalize hW : World.alloc wr _ = W
        obtain ⟨kW, sW, d0, d1⟩ := rule_in hW
        have KB := Lib.hid (thru H.out.2.1 kW)
        have RD := Lib.hid (H.out.2.2.below kW)
        clear hW kW
        refine (closure_is 1 _ _ _ q g a b W RD.out _ HZ.out RD.out.2.2.2.2.2.1).mono ?_; rintro e w2 ⟨rfl, k2⟩
        replace KB := Lib.hid (thru KB.out k2)
        replace RD := Lib.hid (RD.out.below k2)
        clear k2 d0 d1
        go_wp2_with fail
        go_roundw
        case rel => exact ⟨1 + 1, by omega, rfl, Lib.hid ⟨pick_false HZ.out H.out.1, KB.out, RD.out⟩⟩
        case measure => simp [intOf]
      · go_wp2_with fail
        generalize hW : World.alloc wr _ = W
        obtain ⟨kW, sW, d0, d1⟩ := rule_in hW
        have KB := Lib.hid (thru H.out.2.1 kW)
        have RD := Lib.hid (H.out.2.2.below kW)
        clear hW kW
        refine (closure_is 1 _ _ _ q g a b W RD.out _ HZ.out RD.out.2.2.2.2.2.1).mono ?_; rintro e w2 ⟨rfl, k2⟩
        replace KB := Lib.hid (thru KB.out k2)
        have d2 : w2.cell? ⟨wr.heap.size, 0, none⟩ = some (.int .i64 10) := by rw [k2.cell (p := ⟨wr.heap.size, 0, none⟩) (by simp only []; omega)]; exact d0
        clear k2 d0 d1
        go_wp2_with fail
        go_ret
        exact ⟨ret_int (pick_true HZ.out H.out.1), KB.out⟩
    · obtain ⟨z, hz⟩ : ∃ z, (brokenOf b)[2]? = some (z, 5) := ⟨_, rfl⟩
      have c0 : wr.cell? ⟨q, 4, none⟩ = some (.int .i64 5) := H.out.2.2.2.2.2.2.2.2.1
      have c1 : wr.cell? ⟨q, 5, none⟩ = some (.func (.func 83) #[] #[.pointer (some ⟨g, 0, none⟩)]) := H.out.2.2.2.2.2.2.2.2.2.1
      have HZ := Lib.hid hz
      clear hz
      cases z
      · go_wp2_with fail
        generalize hW : World.alloc wr _ = W
        obtain ⟨kW, sW, d0, d1⟩ := rule_in hW
        have KB := Lib.hid (thru H.out.2.1 kW)
        have RD := Lib.hid (H.out.2.2.below kW)
        clear hW kW
        refine (closure_is 2 _ _ _ q g a b W RD.out _ HZ.out RD.out.2.2.2.2.2.2.2.1).mono ?_; rintro e w2 ⟨rfl, k2⟩
        replace KB := Lib.hid (thru KB.out k2)
        replace RD := Lib.hid (RD.out.below k2)
        clear k2 d0 d1
        go_wp2_with fail
        go_roundw
        case rel => exact ⟨2 + 1, by omega, rfl, Lib.hid ⟨pick_false HZ.out H.out.1, KB.out, RD.out⟩⟩
        case measure => simp [intOf]
      · go_wp2_with fail
        generalize hW : World.alloc wr _ = W
        obtain ⟨kW, sW, d0, d1⟩ := rule_in hW
        have KB := Lib.hid (thru H.out.2.1 kW)
        have RD := Lib.hid (H.out.2.2.below kW)
        clear hW kW
        refine (closure_is 2 _ _ _ q g a b W RD.out _ HZ.out RD.out.2.2.2.2.2.2.2.1).mono ?_; rintro e w2 ⟨rfl, k2⟩
        replace KB := Lib.hid (thru KB.out k2)
        have d2 : w2.cell? ⟨wr.heap.size, 0, none⟩ = some (.int .i64 5) := by rw [k2.cell (p := ⟨wr.heap.size, 0, none⟩) (by simp only []; omega)]; exact d0
        clear k2 d0 d1
        go_wp2_with fail
        go_ret
        exact ⟨ret_int (pick_true HZ.out H.out.1), KB.out⟩
    · obtain ⟨z, hz⟩ : ∃ z, (brokenOf b)[3]? = some (z, 6) := ⟨_, rfl⟩
      have c0 : wr.cell? ⟨q, 6, none⟩ = some (.int .i64 6) := H.out.2.2.2.2.2.2.2.2.2.2.1
      have c1 : wr.cell? ⟨q, 7, none⟩ = some (.func (.func 85) #[] #[.pointer (some ⟨g, 0, none⟩), .pointer (some ⟨a, 0, none⟩)]) := H.out.2.2.2.2.2.2.2.2.2.2.2.1
      have HZ := Lib.hid hz
      clear hz
      cases z
      · go_wp2_with fail
        generalize hW : World.alloc wr _ = W
        obtain ⟨kW, sW, d0, d1⟩ := rule_in hW
        have KB := Lib.hid (thru H.out.2.1 kW)
        have RD := Lib.hid (H.out.2.2.below kW)
        clear hW kW
        refine (closure_is 3 _ _ _ q g a b W RD.out _ HZ.out RD.out.2.2.2.2.2.2.2.2.2.1).mono ?_; rintro e w2 ⟨rfl, k2⟩
        replace KB := Lib.hid (thru KB.out k2)
        replace RD := Lib.hid (RD.out.below k2)
        clear k2 d0 d1
        go_wp2_with fail
        go_roundw
        case rel => exact ⟨3 + 1, by omega, rfl, Lib.hid ⟨pick_false HZ.out H.out.1, KB.out, RD.out⟩⟩
        case measure => simp [intOf]
      · go_wp2_with fail
        generalize hW : World.alloc wr _ = W
        obtain ⟨kW, sW, d0, d1⟩ := rule_in hW
        have KB := Lib.hid (thru H.out.2.1 kW)
        have RD := Lib.hid (H.out.2.2.below kW)
        clear hW kW
        refine (closure_is 3 _ _ _ q g a b W RD.out _ HZ.out RD.out.2.2.2.2.2.2.2.2.2.1).mono ?_; rintro e w2 ⟨rfl, k2⟩
        replace KB := Lib.hid (thru KB.out k2)
        have d2 : w2.cell? ⟨wr.heap.size, 0, none⟩ = some (.int .i64 6) := by rw [k2.cell (p := ⟨wr.heap.size, 0, none⟩) (by simp only []; omega)]; exact d0
        clear k2 d0 d1
        go_wp2_with fail
        go_ret
        exact ⟨ret_int (pick_true HZ.out H.out.1), KB.out⟩
    · obtain ⟨z, hz⟩ : ∃ z, (brokenOf b)[4]? = some (z, 7) := ⟨_, rfl⟩
      have c0 : wr.cell? ⟨q, 8, none⟩ = some (.int .i64 7) := H.out.2.2.2.2.2.2.2.2.2.2.2.2.1
      have c1 : wr.cell? ⟨q, 9, none⟩ = some (.func (.func 86) #[] #[.pointer (some ⟨g, 0, none⟩)]) := H.out.2.2.2.2.2.2.2.2.2.2.2.2.2.1
      have HZ := Lib.hid hz
      clear hz
      cases z
      · go_wp2_with fail
        generalize hW : World.alloc wr _ = W
        obtain ⟨kW, sW, d0, d1⟩ := rule_in hW
        have KB := Lib.hid (thru H.out.2.1 kW)
        have RD := Lib.hid (H.out.2.2.below kW)
        clear hW kW
        refine (closure_is 4 _ _ _ q g a b W RD.out _ HZ.out RD.out.2.2.2.2.2.2.2.2.2.2.2.1).mono ?_; rintro e w2 ⟨rfl, k2⟩
        replace KB := Lib.hid (thru KB.out k2)
        replace RD := Lib.hid (RD.out.below k2)
        clear k2 d0 d1
        go_wp2_with fail
        go_roundw
        case rel => exact ⟨4 + 1, by omega, rfl, Lib.hid ⟨pick_false HZ.out H.out.1, KB.out, RD.out⟩⟩
        case measure => simp [intOf]
      · go_wp2_with fail
        generalize hW : World.alloc wr _ = W
        obtain ⟨kW, sW, d0, d1⟩ := rule_in hW
        have KB := Lib.hid (thru H.out.2.1 kW)
        have RD := Lib.hid (H.out.2.2.below kW)
        clear hW kW
        refine (closure_is 4 _ _ _ q g a b W RD.out _ HZ.out RD.out.2.2.2.2.2.2.2.2.2.2.2.1).mono ?_; rintro e w2 ⟨rfl, k2⟩
        replace KB := Lib.hid (thru KB.out k2)
        have d2 : w2.cell? ⟨wr.heap.size, 0, none⟩ = some (.int .i64 7) := by rw [k2.cell (p := ⟨wr.heap.size, 0, none⟩) (by simp only []; omega)]; exact d0
        clear k2 d0 d1
        go_wp2_with fail
        go_ret
        exact ⟨ret_int (pick_true HZ.out H.out.1), KB.out⟩
    · obtain ⟨z, hz⟩ : ∃ z, (brokenOf b)[5]? = some (z, 8) := ⟨_, rfl⟩
      have c0 : wr.cell? ⟨q, 10, none⟩ = some (.int .i64 8) := H.out.2.2.2.2.2.2.2.2.2.2.2.2.2.2.1
      have c1 : wr.cell? ⟨q, 11, none⟩ = some (.func (.func 89) #[] #[.pointer (some ⟨a, 0, none⟩), .pointer (some ⟨g, 0, none⟩)]) := H.out.2.2.2.2.2.2.2.2.2.2.2.2.2.2.2.1
      have HZ := Lib.hid hz
      clear hz
      cases z
      · go_wp2_with fail
        generalize hW : World.alloc wr _ = W
        obtain ⟨kW, sW, d0, d1⟩ := rule_in hW
        have KB := Lib.hid (thru H.out.2.1 kW)
        have RD := Lib.hid (H.out.2.2.below kW)
        clear hW kW
        refine (closure_is 5 _ _ _ q g a b W RD.out _ HZ.out RD.out.2.2.2.2.2.2.2.2.2.2.2.2.2.1).mono ?_; rintro e w2 ⟨rfl, k2⟩
        replace KB := Lib.hid (thru KB.out k2)
        replace RD := Lib.hid (RD.out.below k2)
        clear k2 d0 d1
        go_wp2_with fail
        go_roundw
        case rel => exact ⟨5 + 1, by omega, rfl, Lib.hid ⟨pick_false HZ.out H.out.1, KB.out, RD.out⟩⟩
        case measure => simp [intOf]
      · go_wp2_with fail
        generalize hW : World.alloc wr _ = W
        obtain ⟨kW, sW, d0, d1⟩ := rule_in hW
        have KB := Lib.hid (thru H.out.2.1 kW)
        have RD := Lib.hid (H.out.2.2.below kW)
        clear hW kW
        refine (closure_is 5 _ _ _ q g a b W RD.out _ HZ.out RD.out.2.2.2.2.2.2.2.2.2.2.2.2.2.1).mono ?_; rintro e w2 ⟨rfl, k2⟩
        replace KB := Lib.hid (thru KB.out k2)
        have d2 : w2.cell? ⟨wr.heap.size, 0, none⟩ = some (.int .i64 8) := by rw [k2.cell (p := ⟨wr.heap.size, 0, none⟩) (by simp only []; omega)]; exact d0
        clear k2 d0 d1
        go_wp2_with fail
        go_ret
        exact ⟨ret_int (pick_true HZ.out H.out.1), KB.out⟩
    · obtain ⟨z, hz⟩ : ∃ z, (brokenOf b)[6]? = some (z, 9) := ⟨_, rfl⟩
      have c0 : wr.cell? ⟨q, 12, none⟩ = some (.int .i64 9) := H.out.2.2.2.2.2.2.2.2.2.2.2.2.2.2.2.2.1
      have c1 : wr.cell? ⟨q, 13, none⟩ = some (.func (.func 90) #[] #[.pointer (some ⟨g, 0, none⟩), .pointer (some ⟨a, 0, none⟩)]) := H.out.2.2.2.2.2.2.2.2.2.2.2.2.2.2.2.2.2.1
      have HZ := Lib.hid hz
      clear hz
      cases z
      · go_wp2_with fail
        generalize hW : World.alloc wr _ = W
        obtain ⟨kW, sW, d0, d1⟩ := rule_in hW
        have KB := Lib.hid (thru H.out.2.1 kW)
        have RD := Lib.hid (H.out.2.2.below kW)
        clear hW kW
        refine (closure_is 6 _ _ _ q g a b W RD.out _ HZ.out RD.out.2.2.2.2.2.2.2.2.2.2.2.2.2.2.2.1).mono ?_; rintro e w2 ⟨rfl, k2⟩
        replace KB := Lib.hid (thru KB.out k2)
        replace RD := Lib.hid (RD.out.below k2)
        clear k2 d0 d1
        go_wp2_with fail
        go_roundw
        case rel => exact ⟨6 + 1, by omega, rfl, Lib.hid ⟨pick_false HZ.out H.out.1, KB.out, RD.out⟩⟩
        case measure => simp [intOf]
      · go_wp2_with fail
        generalize hW : World.alloc wr _ = W
        obtain ⟨kW, sW, d0, d1⟩ := rule_in hW
        have KB := Lib.hid (thru H.out.2.1 kW)
        have RD := Lib.hid (H.out.2.2.below kW)
        clear hW kW
        refine (closure_is 6 _ _ _ q g a b W RD.out _ HZ.out RD.out.2.2.2.2.2.2.2.2.2.2.2.2.2.2.2.1).mono ?_; rintro e w2 ⟨rfl, k2⟩
        replace KB := Lib.hid (thru KB.out k2)
        have d2 : w2.cell? ⟨wr.heap.size, 0, none⟩ = some (.int .i64 9) := by rw [k2.cell (p := ⟨wr.heap.size, 0, none⟩) (by simp only []; omega)]; exact d0
        clear k2 d0 d1
        go_wp2_with fail
        go_ret
        exact ⟨ret_int (pick_true HZ.out H.out.1), KB.out⟩
    · obtain ⟨z, hz⟩ : ∃ z, (brokenOf b)[7]? = some (z, 11) := ⟨_, rfl⟩
      have c0 : wr.cell? ⟨q, 14, none⟩ = some (.int .i64 11) := H.out.2.2.2.2.2.2.2.2.2.2.2.2.2.2.2.2.2.2.1
      have c1 : wr.cell? ⟨q, 15, none⟩ = some (.func (.func 92) #[] #[.pointer (some ⟨g, 0, none⟩)]) := H.out.2.2.2.2.2.2.2.2.2.2.2.2.2.2.2.2.2.2.2
      have HZ := Lib.hid hz
      clear hz
      cases z
      · go_wp2_with fail
        generalize hW : World.alloc wr _ = W
        obtain ⟨kW, sW, d0, d1⟩ := rule_in hW
        have KB := Lib.hid (thru H.out.2.1 kW)
        have RD := Lib.hid (H.out.2.2.below kW)
        clear hW kW
        refine (closure_is 7 _ _ _ q g a b W RD.out _ HZ.out RD.out.2.2.2.2.2.2.2.2.2.2.2.2.2.2.2.2.2).mono ?_; rintro e w2 ⟨rfl, k2⟩
        replace KB := Lib.hid (thru KB.out k2)
        replace RD := Lib.hid (RD.out.below k2)
        clear k2 d0 d1
        go_wp2_with fail
        go_roundw
        case rel => exact ⟨7 + 1, by omega, rfl, Lib.hid ⟨pick_false HZ.out H.out.1, KB.out, RD.out⟩⟩
        case measure => simp [intOf]
      · go_wp2_with fail
        generalize hW : World.alloc wr _ = W
        obtain ⟨kW, sW, d0, d1⟩ := rule_in hW
        have KB := Lib.hid (thru H.out.2.1 kW)
        have RD := Lib.hid (H.out.2.2.below kW)
        clear hW kW
        refine (closure_is 7 _ _ _ q g a b W RD.out _ HZ.out RD.out.2.2.2.2.2.2.2.2.2.2.2.2.2.2.2.2.2).mono ?_; rintro e w2 ⟨rfl, k2⟩
        replace KB := Lib.hid (thru KB.out k2)
        have d2 : w2.cell? ⟨wr.heap.size, 0, none⟩ = some (.int .i64 11) := by rw [k2.cell (p := ⟨wr.heap.size, 0, none⟩) (by simp only []; omega)]; exact d0
        clear k2 d0 d1
        go_wp2_with fail
        go_ret
        exact ⟨ret_int (pick_true HZ.out H.out.1), KB.out⟩
    · have h0 : (0 : Int) = v := H.out.1
      have H0 := Lib.hid h0
      clear h0
      go_wp2_with fail
      go_ret
      exact ⟨ret_int H0.out, H.out.2.1⟩

end Go.Proofs.YtfomhdhiibcdfaaGreat.Record
