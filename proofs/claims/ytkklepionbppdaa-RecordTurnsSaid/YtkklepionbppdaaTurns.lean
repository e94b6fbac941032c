/- The walk of RecordTurns. -/
import Derived.Test.YtkklepionbppdaaTurnM
import Derived.Deep.DeepCutAuto
namespace Go.Proofs.Ytkklepionbppdaa
open Go.RowKit Go.Sort

set_option maxRecDepth 100000 in
set_option maxHeartbeats 2000000 in
theorem turns_all (b : Bx) (a t : Int) (ha : 0 ≤ a ∧ a ≤ 255) (w : World) :
    Calls Try.prog 5 #[b.v, .int .u8 a, .int .i64 t] w fun e w' => e = .returned (.bool true) ∧ Below w.heap.size w w' := by
  obtain ⟨ha0, ha1⟩ := ha
  obtain ⟨v, hv⟩ : ∃ v, pickN (brokenOf b) = v := ⟨_, rfl⟩
  have HV := Lib.hid hv
  clear hv
  go_enter Try.func5, Try.ntmps5
  go_upto_region 1 with fail
  generalize hW : World.alloc w _ = W
  obtain ⟨at1, k1⟩ := box_in b hW
  have AT := Lib.hid at1
  have KW := Lib.hid k1
  clear k1 hW at1
  go_wp2_with fail
  refine (speaks_any _).mono ?_; rintro e w1 ⟨rfl, k1⟩
  replace AT := Lib.hid (AT.out.below AT.out.lt k1)
  replace KW := Lib.hid (thru KW.out k1)
  clear k1
  obtain ⟨c0, c1, c2, c3, c4, c5, c6, c7, c8, c9, c10, c11, c12, c13⟩ := AT.out
  go_wp2_with fail
  refine (ref_is b _ HV.out _).mono ?_; rintro e w2 ⟨rfl, k2⟩
  replace AT := Lib.hid (AT.out.below AT.out.lt k2)
  replace KW := Lib.hid (thru KW.out k2)
  clear k2 c0 c1 c2 c3 c4 c5 c6 c7 c8 c9 c10 c11 c12 c13
  by_cases h0 : v = 0
  · subst h0
    obtain ⟨c0, c1, c2, c3, c4, c5, c6, c7, c8, c9, c10, c11, c12, c13⟩ := AT.out
    go_wp2_with fail
    refine (of_any b _).mono ?_; rintro e w3 ⟨rfl, k3⟩
    replace AT := Lib.hid (AT.out.below AT.out.lt k3)
    replace KW := Lib.hid (thru KW.out k3)
    clear k3 c0 c1 c2 c3 c4 c5 c6 c7 c8 c9 c10 c11 c12 c13
    go_upto_region 4 with fail
    generalize hW : World.alloc w3 _ = W3
    have hX : W3.heap.size = w3.heap.size + 1 := by rw [← hW]; simp
    have hN := fresh_in b hW
    have kA : Below w3.heap.size w3 W3 := by rw [← hW]; exact ba1 _ _
    have KS := Lib.hid KW.out.size
    replace KW := Lib.hid (thru KW.out kA)
    have HN := Lib.hid hN
    have HX := Lib.hid hX
    have KA := Lib.hid kA
    clear hX hN hW kA
    by_cases hi : a % 8 < 4
    · obtain ⟨j, hj, hj4⟩ : ∃ j : Nat, a % 8 = (j : Int) ∧ j < 4 := ⟨(a % 8).toNat, by omega, by omega⟩
      clear hi
      obtain ⟨y, hy⟩ : ∃ y, y = [b.m0, b.m1, b.m2, b.m3].getD j 0 := ⟨_, rfl⟩
      obtain ⟨ad, hA, _, hcy⟩ := (At.of_block HN.out).margins j hj4
      cases hA
      rw [← hy, add_flat] at hcy
      have fz := thawed_in HN.out (6 + j)
      clear hy
      go_upto_region 7 with fail
      generalize hW4 : World.setCell W3 _ _ = W4
      have at4 : At W4 w3.heap.size (turnM b t j) := by rw [← hW4]; exact margin_in b t j hj4 HN.out
      have atb : At W4 w.heap.size b := by rw [← hW4]; exact AT.out.below AT.out.lt (KA.out.setCell (Nat.le_refl _) _)
      have K4 : Hid (Below w.heap.size w W4) := Lib.hid (by rw [← hW4]; exact KW.out.setCell KS.out _)
      have hlaw := turnM_law b t j hj4 HV.out
      clear hW4 hcy fz HN HX KA KS KW AT
      generalize turnM b t j = b4 at at4 hlaw
      obtain ⟨-, q1, -⟩ := atb
      unfold At at at4
      obtain ⟨c0, c1, c2, c3, c4, c5, c6, c7, c8, c9, c10, c11, c12, c13⟩ := at4
      have HL := Lib.hid hlaw
      clear hlaw hj ha0 ha1
      by_cases t1 : 268435456 < t
      · have hL : wantM b t = 10 := by simp [wantM, bigB, beyB, t1]
        go_wp2_with fail
        refine (check_is b4 10 (by rw [HL.out]; exact hL) _).mono ?_; rintro e w5 ⟨rfl, k5⟩
        go_wp2_with fail
        go_ret
        exact ⟨rfl, thru K4.out k5⟩
      by_cases t2 : t < -268435456
      · have hL : wantM b t = 10 := by simp [wantM, bigB, beyB, t2]
        go_wp2_with fail
        refine (check_is b4 10 (by rw [HL.out]; exact hL) _).mono ?_; rintro e w5 ⟨rfl, k5⟩
        go_wp2_with fail
        go_ret
        exact ⟨rfl, thru K4.out k5⟩
      have tb : bigB t = false := by simp [bigB, beyB]; omega
      have TB := Lib.hid tb
      clear tb
      by_cases k5 : b.k = 5
      · have kb : (b.k == 5) = true := by simp [k5]
        by_cases t0 : t = 0
        · have hL : wantM b t = 0 := by rw [t0]; simp [wantM, bigB, beyB, badM]
          go_wp2_with fail
          refine (check_is b4 0 (by rw [HL.out]; exact hL) _).mono ?_; rintro e w5 ⟨rfl, k5⟩
          go_wp2_with fail
          go_ret
          exact ⟨rfl, thru K4.out k5⟩
        · have hL : wantM b t = 8 := by simp [wantM, TB.out, badM, t0, kb]
          go_wp2_with fail
          refine (check_is b4 8 (by rw [HL.out]; exact hL) _).mono ?_; rintro e w5 ⟨rfl, k5⟩
          go_wp2_with fail
          go_ret
          exact ⟨rfl, thru K4.out k5⟩
      · have kb : (b.k == 5) = false := by simp [k5]
        have hL : wantM b t = 0 := by simp [wantM, TB.out, badM, kb]
        go_wp2_with fail
        refine (check_is b4 0 (by rw [HL.out]; exact hL) _).mono ?_; rintro e w5 ⟨rfl, k5⟩
        go_wp2_with fail
        go_ret
        exact ⟨rfl, thru K4.out k5⟩
    · obtain ⟨j, hj, hj4⟩ : ∃ j : Nat, a % 8 = (j : Int) + 4 ∧ j < 4 := ⟨(a % 8 - 4).toNat, by omega, by omega⟩
      clear hi
      obtain ⟨y, hy⟩ : ∃ y, y = [b.e0, b.e1, b.e2, b.e3].getD j 0 := ⟨_, rfl⟩
      obtain ⟨ad, hA, _, hcy⟩ := (At.of_block HN.out).edges j hj4
      cases hA
      rw [← hy, add_flat] at hcy
      have fz := thawed_in HN.out (10 + j)
      clear hy
      go_upto_region 14 with fail
      generalize hW4 : World.setCell W3 _ _ = W4
      have at4 : At W4 w3.heap.size (turnE b t j) := by rw [← hW4]; exact edge_in b t j hj4 HN.out
      have atb : At W4 w.heap.size b := by rw [← hW4]; exact AT.out.below AT.out.lt (KA.out.setCell (Nat.le_refl _) _)
      have K4 : Hid (Below w.heap.size w W4) := Lib.hid (by rw [← hW4]; exact KW.out.setCell KS.out _)
      have hlaw := turnE_law b t j hj4 HV.out
      clear hW4 hcy fz HN HX KA KS KW AT
      generalize turnE b t j = b4 at at4 hlaw
      obtain ⟨-, q1, -⟩ := atb
      unfold At at at4
      obtain ⟨c0, c1, c2, c3, c4, c5, c6, c7, c8, c9, c10, c11, c12, c13⟩ := at4
      have HL := Lib.hid hlaw
      clear hlaw hj ha0 ha1
      by_cases t1 : 268435456 < t
      · have hL : wantE b t = 10 := by simp [wantE, bigB, beyB, t1]
        go_wp2_with fail
        refine (check_is b4 10 (by rw [HL.out]; exact hL) _).mono ?_; rintro e w5 ⟨rfl, k5⟩
        go_wp2_with fail
        go_ret
        exact ⟨rfl, thru K4.out k5⟩
      by_cases t2 : t < -268435456
      · have hL : wantE b t = 10 := by simp [wantE, bigB, beyB, t2]
        go_wp2_with fail
        refine (check_is b4 10 (by rw [HL.out]; exact hL) _).mono ?_; rintro e w5 ⟨rfl, k5⟩
        go_wp2_with fail
        go_ret
        exact ⟨rfl, thru K4.out k5⟩
      have tb : bigB t = false := by simp [bigB, beyB]; omega
      have TB := Lib.hid tb
      clear tb
      by_cases t3 : t < 0
      · have hL : wantE b t = 9 := by simp [wantE, TB.out, badE, t3]
        go_wp2_with fail
        refine (check_is b4 9 (by rw [HL.out]; exact hL) _).mono ?_; rintro e w5 ⟨rfl, k5⟩
        go_wp2_with fail
        go_ret
        exact ⟨rfl, thru K4.out k5⟩
      by_cases k5 : b.k = 5
      · have kb : (b.k == 5) = true := by simp [k5]
        by_cases t0 : t = 0
        · have hL : wantE b t = 0 := by rw [t0]; simp [wantE, bigB, beyB, badE]
          go_wp2_with fail
          refine (check_is b4 0 (by rw [HL.out]; exact hL) _).mono ?_; rintro e w5 ⟨rfl, k5⟩
          go_wp2_with fail
          go_ret
          exact ⟨rfl, thru K4.out k5⟩
        · have hL : wantE b t = 9 := by simp [wantE, TB.out, badE, t0, kb]
          go_wp2_with fail
          refine (check_is b4 9 (by rw [HL.out]; exact hL) _).mono ?_; rintro e w5 ⟨rfl, k5⟩
          go_wp2_with fail
          go_ret
          exact ⟨rfl, thru K4.out k5⟩
      · have kb : (b.k == 5) = false := by simp [k5]
        have hL : wantE b t = 0 := by simp [wantE, TB.out, badE, kb, t3]
        go_wp2_with fail
        refine (check_is b4 0 (by rw [HL.out]; exact hL) _).mono ?_; rintro e w5 ⟨rfl, k5⟩
        go_wp2_with fail
        go_ret
        exact ⟨rfl, thru K4.out k5⟩
  · have hb : (v == 0) = false := by simp [h0]
    go_wp2_with fail
    refine (speaks_any _).mono ?_; rintro e w3 ⟨rfl, k3⟩
    replace KW := Lib.hid (thru KW.out k3)
    clear k3
    go_wp2_with fail
    go_ret
    exact ⟨rfl, KW.out⟩

end Go.Proofs.Ytkklepionbppdaa
