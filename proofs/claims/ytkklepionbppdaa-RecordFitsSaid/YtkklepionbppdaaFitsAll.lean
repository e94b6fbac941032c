/- The walk of RecordFits. -/
import Derived.Test.YtkklepionbppdaaFits
namespace Go.Proofs.Ytkklepionbppdaa
open Go.RowKit Go.Sort

theorem fits_is (p c : Int) (v : Bool) (hv : fitsB p c = v) (w : World) :
    Calls Try.prog 11 #[.int .i64 p, .int .i64 c] w fun e w' => e = .returned (.bool v) ∧ w = w' := by
  subst hv; exact fits_any p c w

theorem reffits_is (p c : Int) (v : Bool) (hv : fitsB p c = v) (w : World) :
    Calls Try.prog 12 #[.int .i64 p, .int .i64 c] w fun e w' => e = .returned (.bool v) ∧ Below w.heap.size w w' := by
  subst hv; exact reffits_any p c w

set_option maxRecDepth 100000 in
set_option maxHeartbeats 1000000 in
theorem fits_all (p c : Int) (w : World) :
    Calls Try.prog 4 #[.int .i64 p, .int .i64 c] w fun e w' => e = .returned (.bool true) ∧ Below w.heap.size w w' := by
  obtain ⟨v, hv⟩ : ∃ v, fitsB p c = v := ⟨_, rfl⟩
  obtain ⟨o, ho⟩ : ∃ v, openB p = v := ⟨_, rfl⟩
  have HV := Lib.hid hv
  have HO := Lib.hid ho
  clear hv ho
  go_enter Try.func4, Try.ntmps4
  go_wp2_with fail
  refine (speaks_any _).mono ?_; rintro e w1 ⟨rfl, k1⟩
  have K1 := Lib.hid k1
  clear k1
  go_wp2_with fail
  go_loopw [5] (fun i wr => ∃ k : Nat, k ≤ 7 ∧ i = .int .i64 k ∧ Hid (Below w.heap.size w wr)) (fun i _ => 7 - (intOf i).toNat)
  case atStart => exact ⟨0, Nat.zero_le _, rfl, K1⟩
  case round wr =>
  obtain ⟨k, hk, rfl, H⟩ := hrel
  by_cases hlt : k < 7
  · have hd : decide ((k : Int) ≤ 6) = true := by simp; omega
    go_wp2_with fail
    go_loopw [6] (fun i ws => ∃ j : Nat, j ≤ 7 ∧ i = .int .i64 j ∧ Hid (Below w.heap.size w ws)) (fun i _ => 7 - (intOf i).toNat)
    case atStart => exact ⟨0, Nat.zero_le _, rfl, H⟩
    case round ws =>
    obtain ⟨j, hj, rfl, G⟩ := hrel
    by_cases hlj : j < 7
    · obtain ⟨x, hx⟩ : ∃ v, fitsB k j = v := ⟨_, rfl⟩
      have HX := Lib.hid hx
      clear hx
      cases x
      all_goals
        go_wp2_with fail
        refine (fits_is _ _ _ HX.out _).mono ?_; rintro e w' ⟨rfl, rfl⟩
        go_wp2_with fail
        refine (reffits_is _ _ _ HX.out _).mono ?_; rintro e w2 ⟨rfl, k2⟩
        have K2 := Lib.hid (thru G.out k2)
        clear k2
        go_wp2_with fail
        go_roundw
        case rel => exact ⟨j + 1, by omega, by go_num, K2⟩
        case measure => simp [intOf]; omega
    · obtain rfl : j = 7 := by omega
      go_wp2_with fail
      go_roundw
      case rel => exact ⟨k + 1, by omega, by go_num, G⟩
      case measure => simp [intOf]; omega
  · obtain rfl : k = 7 := by omega
    go_wp2_with fail
    refine (fits_is _ _ _ HV.out _).mono ?_; rintro e w' ⟨rfl, rfl⟩
    go_wp2_with fail
    refine (reffits_is _ _ _ HV.out _).mono ?_; rintro e w2 ⟨rfl, k2⟩
    have K2 := Lib.hid (thru H.out k2)
    clear k2
    by_cases h2 : p = 2
    · subst h2
      have ho : o = true := by rw [← HO.out]; rfl
      subst ho
      cases v
      all_goals
        go_wp2_with fail
        refine (open_is _ _ HO.out _).mono ?_; rintro e w' ⟨rfl, rfl⟩
        go_wp2_with fail
        go_ret
        exact ⟨rfl, K2.out⟩
    · by_cases h3 : p = 3
      · subst h3
        have ho : o = true := by rw [← HO.out]; rfl
        subst ho
        cases v
        all_goals
          go_wp2_with fail
          refine (open_is _ _ HO.out _).mono ?_; rintro e w' ⟨rfl, rfl⟩
          go_wp2_with fail
          go_ret
          exact ⟨rfl, K2.out⟩
      · have ho : o = false := by rw [← HO.out]; simp [openB, h2, h3]
        have b2 : (p == 2) = false := by simp [h2]
        have b3 : (p == 3) = false := by simp [h3]
        subst ho
        cases v
        all_goals
          go_wp2_with fail
          refine (open_is _ _ HO.out _).mono ?_; rintro e w' ⟨rfl, rfl⟩
          go_wp2_with fail
          go_ret
          exact ⟨rfl, K2.out⟩

end Go.Proofs.Ytkklepionbppdaa
