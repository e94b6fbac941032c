/- The contract of the document's own Check. -/
import Derived.Test.YtfomhdhiibcdfaaGreatPart7
import Derived.Deep.DeepCutAuto
namespace Go.Proofs.YtfomhdhiibcdfaaGreat.Record
open Go.RowKit Go.Sort

set_option maxRecDepth 100000 in
set_option maxHeartbeats 4000000 in
theorem ref_is (b : Bx) (v : Int) (hv : pickN (brokenOf b) = v) (w : World) :
    Calls Tryz.prog 31 #[b.v] w fun e w' => e = .returned (.int .i64 v) ∧ Below w.heap.size w w' := by
  obtain ⟨x1, hx1⟩ : ∃ x, beyB b.k 1 5 = x := ⟨_, rfl⟩
  obtain ⟨x2, hx2⟩ : ∃ x, (bigB b.w || bigB b.h) = x := ⟨_, rfl⟩
  obtain ⟨x3, hx3⟩ : ∃ x, (!sideB b.k b.s) = x := ⟨_, rfl⟩
  obtain ⟨x4, hx4⟩ : ∃ x, (beyB b.c 0 3 || ((b.k == 5) && !(b.c == 0))) = x := ⟨_, rfl⟩
  obtain ⟨x5, hx5⟩ : ∃ x, sizeB b.k b.w b.h = x := ⟨_, rfl⟩
  obtain ⟨x8, hx8⟩ : ∃ x, beyB b.d 0 256 = x := ⟨_, rfl⟩
  obtain ⟨u, hu⟩ : ∃ x, (b.k == 5) = x := ⟨_, rfl⟩
  have HV := Lib.hid hv
  have H1 := Lib.hid hx1
  have H2 := Lib.hid hx2
  have H3 := Lib.hid hx3
  have H4 := Lib.hid hx4
  have H5 := Lib.hid hx5
  have H8 := Lib.hid hx8
  have HU := Lib.hid hu
  clear hv hx1 hx2 hx3 hx4 hx5 hx8 hu
  go_enter Tryz.func31, Tryz.ntmps31
  go_upto_region 1 with fail
  generalize hW : World.alloc w _ = W
  obtain ⟨at1, k1⟩ := box_in b hW
  have AT := Lib.hid at1
  have KW := Lib.hid k1
  clear k1 hW
  obtain ⟨c0, c1, c2, c3, c4, c5, -⟩ := at1
  clear c0 c2 c3 c4 c5
  go_cut [13] (fun t wx => t = .bool x1 ∧ wx = W)
  case first => as_aux_lemma =>
    go_wp2_with fail
    all_goals (go_meet; exact ⟨congrArg Value.bool (by rw [← H1.out, Bool.eq_iff_iff]; simp_all [beyB] <;> omega), rfl⟩)
  case rest =>
  obtain ⟨rfl, rfl⟩ := hcut
  clear c1
  cases x1
  case true =>
    go_wp2_with fail
    go_ret
    exact ⟨ret_int (pick_true (l := brokenOf b) (k := 0) (s := 4) (by rw [← H1.out]; rfl) HV.out), KW.out⟩
  case false =>
  replace HV : Hid (pickN ((brokenOf b).drop 1) = v) := Lib.hid (pick_false (l := brokenOf b) (k := 0) (s := 4) (by rw [← H1.out]; rfl) HV.out)
  go_upto_region 3 with fail
  go_cut [21] (fun t wx => t = .bool x2 ∧ wx = wc)
  case first => as_aux_lemma =>
    obtain ⟨y, hy⟩ : ∃ y, bigB b.w = y := ⟨_, rfl⟩
    have HY := Lib.hid hy
    clear hy
    obtain ⟨-, -, -, -, c4, c5, -⟩ := AT.out
    cases y
    · go_wp2_with fail
      refine (refbig_is _ _ HY.out _).mono ?_; rintro e w' ⟨rfl, rfl⟩
      go_wp2_with fail
      refine (refbig_any _ _).mono ?_; rintro e w' ⟨rfl, rfl⟩
      go_wp2_with fail
      go_meet
      exact ⟨congrArg Value.bool (by rw [← H2.out, HY.out]; rfl), rfl⟩
    · go_wp2_with fail
      refine (refbig_is _ _ HY.out _).mono ?_; rintro e w' ⟨rfl, rfl⟩
      go_wp2_with fail
      go_meet
      exact ⟨congrArg Value.bool (by rw [← H2.out, HY.out]; rfl), rfl⟩
  case rest =>
  obtain ⟨rfl, rfl⟩ := hcut
  cases x2
  case true =>
    go_wp2_with fail
    go_ret
    exact ⟨ret_int (pick_true (l := brokenOf b) (k := 1) (s := 10) (at1_wh b H2.out) HV.out), KW.out⟩
  case false =>
  go_upto_region 6 with fail
  go_wp2_with fail
  go_loop [3] (fun i => ∃ k : Nat, k ≤ 4 ∧ i = .int .i64 k ∧ Hid (([b.m0, b.m1, b.m2, b.m3].take k).any bigB = false ∧ ([b.e0, b.e1, b.e2, b.e3].take k).any bigB = false)) (fun i => 4 - (intOf i).toNat)
  case atStart => exact ⟨0, by omega, rfl, Lib.hid ⟨rfl, rfl⟩⟩
  case round =>
  obtain ⟨k, hk, rfl, HA⟩ := hrel
  by_cases hlt : k < 4
  · obtain ⟨ad, hA, _, hcy⟩ := AT.out.margins k hlt
    obtain ⟨ad2, hA2, _, hcz⟩ := AT.out.edges k hlt
    cases hA
    cases hA2
    obtain ⟨y, hy⟩ : ∃ y, y = [b.m0, b.m1, b.m2, b.m3].getD k 0 := ⟨_, rfl⟩
    obtain ⟨z, hz⟩ : ∃ z, z = [b.e0, b.e1, b.e2, b.e3].getD k 0 := ⟨_, rfl⟩
    rw [← hy, add_flat] at hcy
    rw [← hz, add_flat] at hcz
    have HY := Lib.hid hy
    have HZ := Lib.hid hz
    clear hy hz
    obtain ⟨yb, hyb⟩ : ∃ x, bigB y = x := ⟨_, rfl⟩
    obtain ⟨zb, hzb⟩ : ∃ x, bigB z = x := ⟨_, rfl⟩
    have HYB := Lib.hid hyb
    have HZB := Lib.hid hzb
    clear hyb hzb
    cases yb
    · cases zb
      · go_wp2_with fail
        refine (refbig_is _ _ HYB.out _).mono ?_; rintro e w' ⟨rfl, rfl⟩
        go_wp2_with fail
        refine (refbig_is _ _ HZB.out _).mono ?_; rintro e w' ⟨rfl, rfl⟩
        go_wp2_with fail
        go_round
        case rel => exact ⟨k + 1, by omega, by go_num, Lib.hid ⟨any_take _ _ k hlt HA.out.1 (by rw [← HY.out]; exact HYB.out), any_take _ _ k hlt HA.out.2 (by rw [← HZ.out]; exact HZB.out)⟩⟩
        case measure => simp [intOf]; omega
      · go_wp2_with fail
        refine (refbig_is _ _ HYB.out _).mono ?_; rintro e w' ⟨rfl, rfl⟩
        go_wp2_with fail
        refine (refbig_is _ _ HZB.out _).mono ?_; rintro e w' ⟨rfl, rfl⟩
        go_wp2_with fail
        go_ret
        exact ⟨ret_int (pick_true (l := brokenOf b) (k := 1) (s := 10) (at1_e b (any_at _ _ k hlt (by rw [← HZ.out]; exact HZB.out))) HV.out), KW.out⟩
    · go_wp2_with fail
      refine (refbig_is _ _ HYB.out _).mono ?_; rintro e w' ⟨rfl, rfl⟩
      go_wp2_with fail
      go_ret
      exact ⟨ret_int (pick_true (l := brokenOf b) (k := 1) (s := 10) (at1_m b (any_at _ _ k hlt (by rw [← HY.out]; exact HYB.out))) HV.out), KW.out⟩
  · obtain rfl : k = 4 := by omega
    replace HV : Hid (pickN ((brokenOf b).drop 2) = v) := Lib.hid (pick_false (l := brokenOf b) (k := 1) (s := 10) (at1 b _ _ _ H2.out HA.out.1 HA.out.2) HV.out)
    clear HA hlt hk
    go_upto_region 10 with fail
    go_cut [60] (fun t wx => t = .bool x3 ∧ wx = wc)
    case first => as_aux_lemma =>
      obtain ⟨-, c1, c2, -⟩ := AT.out
      go_wp2_with fail
      all_goals (go_meet; exact ⟨congrArg Value.bool (by rw [← H3.out, Bool.eq_iff_iff]; simp_all [sideB] <;> omega), rfl⟩)
    case rest =>
    obtain ⟨rfl, rfl⟩ := hcut
    cases x3
    case true =>
      go_wp2_with fail
      go_ret
      exact ⟨ret_int (pick_true (l := brokenOf b) (k := 2) (s := 5) (by rw [← H3.out]; rfl) HV.out), KW.out⟩
    case false =>
    replace HV : Hid (pickN ((brokenOf b).drop 3) = v) := Lib.hid (pick_false (l := brokenOf b) (k := 2) (s := 5) (by rw [← H3.out]; rfl) HV.out)
    go_upto_region 12 with fail
    go_cut [78] (fun t wx => t = .bool x4 ∧ wx = wc)
    case first => as_aux_lemma =>
      obtain ⟨-, c1, -, c3, -⟩ := AT.out
      go_wp2_with fail
      all_goals (go_meet; exact ⟨congrArg Value.bool (by rw [← H4.out, Bool.eq_iff_iff]; simp_all [beyB] <;> omega), rfl⟩)
    case rest =>
    obtain ⟨rfl, rfl⟩ := hcut
    cases x4
    case true =>
      go_wp2_with fail
      go_ret
      exact ⟨ret_int (pick_true (l := brokenOf b) (k := 3) (s := 6) (by rw [← H4.out]; rfl) HV.out), KW.out⟩
    case false =>
    replace HV : Hid (pickN ((brokenOf b).drop 4) = v) := Lib.hid (pick_false (l := brokenOf b) (k := 3) (s := 6) (by rw [← H4.out]; rfl) HV.out)
    go_upto_region 14 with fail
    go_cut [111] (fun t wx => t = .bool x5 ∧ wx = wc)
    case first => as_aux_lemma =>
      obtain ⟨-, c1, -, -, c4, c5, -⟩ := AT.out
      go_wp2_with fail
      all_goals (go_meet; exact ⟨congrArg Value.bool (by rw [← H5.out, Bool.eq_iff_iff]; simp_all [sizeB] <;> omega), rfl⟩)
    case rest =>
    obtain ⟨rfl, rfl⟩ := hcut
    cases x5
    case true =>
      go_wp2_with fail
      go_ret
      exact ⟨ret_int (pick_true (l := brokenOf b) (k := 4) (s := 7) (at4 b _ H5.out) HV.out), KW.out⟩
    case false =>
    replace HV : Hid (pickN ((brokenOf b).drop 5) = v) := Lib.hid (pick_false (l := brokenOf b) (k := 4) (s := 7) (at4 b _ H5.out) HV.out)
    go_upto_region 17 with fail
    go_loop [4] (fun i => ∃ k : Nat, k ≤ 4 ∧ i = .int .i64 k ∧ Hid (([b.m0, b.m1, b.m2, b.m3].take k).any (badM u) = false)) (fun i => 4 - (intOf i).toNat)
    case atStart => exact ⟨0, by omega, rfl, Lib.hid rfl⟩
    case round =>
    obtain ⟨k, hk, rfl, HA⟩ := hrel
    obtain ⟨-, c1, -⟩ := AT.out
    by_cases hlt : k < 4
    · obtain ⟨ad, hA, _, hcy⟩ := AT.out.margins k hlt
      cases hA
      obtain ⟨y, hy⟩ : ∃ y, y = [b.m0, b.m1, b.m2, b.m3].getD k 0 := ⟨_, rfl⟩
      rw [← hy, add_flat] at hcy
      have HY := Lib.hid hy
      clear hy
      have hu := HU.out
      cases u
      · go_wp2_with fail
        go_round
        case rel => exact ⟨k + 1, by omega, by go_num, Lib.hid (any_take _ _ k hlt HA.out rfl)⟩
        case measure => simp [intOf]; omega
      · have hk5 : b.k = 5 := by simpa using hu
        by_cases h0 : y = 0
        · go_wp2_with fail
          go_round
          case rel => exact ⟨k + 1, by omega, by go_num, Lib.hid (any_take _ _ k hlt HA.out (by rw [← HY.out, h0]; rfl))⟩
          case measure => simp [intOf]; omega
        · go_wp2_with fail
          go_ret
          exact ⟨ret_int (pick_true (l := brokenOf b) (k := 5) (s := 8) (at5 b _ _ HU.out (any_at _ _ k hlt (by rw [← HY.out]; simp [badM, h0]))) HV.out), KW.out⟩
    · obtain rfl : k = 4 := by omega
      replace HV : Hid (pickN ((brokenOf b).drop 6) = v) := Lib.hid (pick_false (l := brokenOf b) (k := 5) (s := 8) (at5 b _ _ HU.out HA.out) HV.out)
      clear HA hlt hk c1
      go_upto_region 22 with fail
      go_loop [5] (fun i => ∃ k : Nat, k ≤ 4 ∧ i = .int .i64 k ∧ Hid (([b.e0, b.e1, b.e2, b.e3].take k).any (badE u) = false)) (fun i => 4 - (intOf i).toNat)
      case atStart => exact ⟨0, by omega, rfl, Lib.hid rfl⟩
      case round =>
      obtain ⟨k, hk, rfl, HA⟩ := hrel
      by_cases hlt : k < 4
      · obtain ⟨-, c1, -⟩ := AT.out
        obtain ⟨ad, hA, _, hcy⟩ := AT.out.edges k hlt
        cases hA
        obtain ⟨y, hy⟩ : ∃ y, y = [b.e0, b.e1, b.e2, b.e3].getD k 0 := ⟨_, rfl⟩
        rw [← hy, add_flat] at hcy
        have HY := Lib.hid hy
        clear hy
        have hu := HU.out
        by_cases hn : y < 0
        · go_wp2_with fail
          go_ret
          exact ⟨ret_int (pick_true (l := brokenOf b) (k := 6) (s := 9) (at6 b _ _ HU.out (any_at _ _ k hlt (by rw [← HY.out]; simp [badE, hn]))) HV.out), KW.out⟩
        · cases u
          · go_wp2_with fail
            go_round
            case rel => exact ⟨k + 1, by omega, by go_num, Lib.hid (any_take _ _ k hlt HA.out (by rw [← HY.out]; simp [badE, hn]))⟩
            case measure => simp [intOf]; omega
          · have hk5 : b.k = 5 := by simpa using hu
            by_cases h0 : y = 0
            · go_wp2_with fail
              go_round
              case rel => exact ⟨k + 1, by omega, by go_num, Lib.hid (any_take _ _ k hlt HA.out (by rw [← HY.out, h0]; rfl))⟩
              case measure => simp [intOf]; omega
            · go_wp2_with fail
              go_ret
              exact ⟨ret_int (pick_true (l := brokenOf b) (k := 6) (s := 9) (at6 b _ _ HU.out (any_at _ _ k hlt (by rw [← HY.out]; simp [badE, h0]))) HV.out), KW.out⟩
      · obtain rfl : k = 4 := by omega
        replace HV : Hid (pickN ((brokenOf b).drop 7) = v) := Lib.hid (pick_false (l := brokenOf b) (k := 6) (s := 9) (at6 b _ _ HU.out HA.out) HV.out)
        clear HA hlt hk
        go_upto_region 26 with fail
        go_cut [154] (fun t wx => t = .bool x8 ∧ wx = wc)
        case first => as_aux_lemma =>
          obtain ⟨c0, -⟩ := AT.out
          go_wp2_with fail
          all_goals (go_meet; exact ⟨congrArg Value.bool (by rw [← H8.out, Bool.eq_iff_iff]; simp_all [beyB] <;> omega), rfl⟩)
        case rest =>
        obtain ⟨rfl, rfl⟩ := hcut
        cases x8
        case true =>
          go_wp2_with fail
          go_ret
          exact ⟨ret_int (pick_true (l := brokenOf b) (k := 7) (s := 11) (by rw [← H8.out]; rfl) HV.out), KW.out⟩
        case false =>
        replace HV : Hid (pickN ((brokenOf b).drop 8) = v) := Lib.hid (pick_false (l := brokenOf b) (k := 7) (s := 11) (by rw [← H8.out]; rfl) HV.out)
        go_wp2_with fail
        go_ret
        exact ⟨ret_int HV.out, KW.out⟩

end Go.Proofs.YtfomhdhiibcdfaaGreat.Record
