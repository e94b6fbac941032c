/- The walk of RecordKinds. -/
import Derived.Test.YtkklepionbppdaaKindM
import Derived.Deep.CutBlock
import Derived.Deep.DeepCutAuto
namespace Go.Proofs.Ytkklepionbppdaa
open Go.RowKit Go.Sort

set_option maxHeartbeats 1000000 in
theorem kinds_all (b : Bx) (a : Int) (ha : 0 ≤ a ∧ a ≤ 255) (w : World) :
    Calls Try.prog 6 #[b.v, .int .u8 a] w fun e w' => e = .returned (.bool true) ∧ Below w.heap.size w w' := by
  obtain ⟨ha0, ha1⟩ := ha
  obtain ⟨v, hv⟩ : ∃ v, pickN (brokenOf b) = v := ⟨_, rfl⟩
  have HV := Lib.hid hv
  clear hv
  go_enter Try.func6, Try.ntmps6
  go_upto_region 1 with fail
  generalize hW : World.alloc w _ = W
  obtain ⟨at1, k1⟩ := box_in b hW
  have AT := Lib.hid at1
  have KW := Lib.hid k1
  clear k1 hW at1
  go_wp2_with fail
  refine (speaks_any _).mono ?_; rintro e w1 ⟨rfl, k1⟩
  replace AT := Lib.hid (AT.out.below AT.out.lt k1)
  replace KW := Lib.hid (thru KW.out k1)
  clear k1
  obtain ⟨c0, c1, c2, c3, c4, c5, c6, c7, c8, c9, c10, c11, c12, c13⟩ := AT.out
  go_wp2_with fail
  refine (ref_is b _ HV.out _).mono ?_; rintro e w2 ⟨rfl, k2⟩
  replace AT := Lib.hid (AT.out.below AT.out.lt k2)
  replace KW := Lib.hid (thru KW.out k2)
  clear k2 c0 c1 c2 c3 c4 c5 c6 c7 c8 c9 c10 c11 c12 c13
  by_cases h0 : v = 0
  · subst h0
    obtain ⟨c0, c1, c2, c3, c4, c5, c6, c7, c8, c9, c10, c11, c12, c13⟩ := AT.out
    go_wp2_with fail
    refine (of_any b _).mono ?_; rintro e w3 ⟨rfl, k3⟩
    replace KW := Lib.hid (thru KW.out k3)
    clear k3 c0 c1 c2 c3 c4 c5 c6 c7 c8 c9 c10 c11 c12 c13
    go_upto_region 4 with fail
    generalize hW : World.alloc w3 _ = W3
    have hX : W3.heap.size = w3.heap.size + 1 := by rw [← hW]; simp
    have hN := fresh_in b hW
    have KS := Lib.hid KW.out.size
    replace KW : Hid (Below w.heap.size w W3) := Lib.hid (by rw [← hW]; exact thru KW.out (ba1 _ _))
    obtain ⟨c0, c1, c2, c3, c4, c5, c6, c7, c8, c9, c10, c11, c12, c13⟩ := At.of_block hN
    have fz := thawed_in hN 1
    have HX := Lib.hid hX
    have HN := Lib.hid hN
    clear hX hN hW
    obtain ⟨k, hk⟩ : ∃ k, 1 + a % 5 = k := ⟨_, rfl⟩
    go_upto_region 5 with fail
    have HK := Lib.hid hk
    clear hk c0 c1 c2 c3 c4 c5 c6 c7 c8 c9 c10 c11 c12 c13 fz
    generalize hW4 : World.setCell W3 _ _ = W4
    have at4 : At W4 w3.heap.size (b.kind k) := by rw [← hW4]; exact kind_in b k HN.out
    have hk15 : 1 ≤ k ∧ k ≤ 5 := by rw [← HK.out]; omega
    have K4 : Hid (Below w.heap.size w W4) := Lib.hid (by rw [← hW4]; exact KW.out.setCell KS.out _)
    have AT4 := Lib.hid at4
    have HO := Lib.hid (kinds_law b k HV.out hk15)
    have HB := Lib.hid hk15
    clear hW4 at4 hk15 KW HX HN AT HV HK ha0 ha1
    obtain ⟨u, hu⟩ : ∃ u, ((k == 2) == !(b.s == 0)) = u := ⟨_, rfl⟩
    have HU := Lib.hid hu
    obtain ⟨o, ho⟩ : ∃ o, okOf b k = o := ⟨_, rfl⟩
    have HQ := Lib.hid ho
    clear hu ho
    go_cut [6] (fun t wx => t = .bool u ∧ wx = W4)
    case first =>
      obtain ⟨-, c1, c2, -⟩ := AT4.out
      go_wp2_with fail
      all_goals (go_meet; exact ⟨congrArg Value.bool (by rw [← HU.out]; rfl), rfl⟩)
    case rest =>
    obtain ⟨rfl, rfl⟩ := hcut
    obtain ⟨c0, c1, c2, c3, c4, c5, c6, c7, c8, c9, c10, c11, c12, c13⟩ := AT4.out
    go_upto_block 0 with fail
    go_cut [6] (fun t wx => t = .bool o ∧ wx = wc)
    case first =>
      have E := eq22
      go_wp2_with fail
      all_goals (go_meet; refine ⟨congrArg Value.bool ?_, rfl⟩; rw [← HQ.out]; unfold okOf; rw [HU.out, Bool.eq_iff_iff]; simp_all [noM, noE] <;> omega)
    case rest =>
    obtain ⟨rfl, rfl⟩ := hcut
    go_wp2_with fail
    obtain ⟨n, hn⟩ : ∃ n, pickN (brokenOf (b.kind k)) = n := ⟨_, rfl⟩
    have hno : (n == 0) = o := by rw [← hn, ← HQ.out]; exact HO.out
    refine (check_is (b.kind k) n hn _).mono ?_; rintro e w5 ⟨rfl, k5⟩
    clear hn
    go_wp2_with fail
    go_ret
    exact ⟨ret_bool (by simp), thru K4.out k5⟩
  · have hb : (v == 0) = false := by simp [h0]
    go_wp2_with fail
    refine (speaks_any _).mono ?_; rintro e w3 ⟨rfl, k3⟩
    replace KW := Lib.hid (thru KW.out k3)
    clear k3
    go_wp2_with fail
    go_ret
    exact ⟨rfl, KW.out⟩

end Go.Proofs.Ytkklepionbppdaa
