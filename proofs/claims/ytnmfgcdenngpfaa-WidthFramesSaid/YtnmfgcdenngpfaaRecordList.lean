/- The contracts of the ranges over lists: is one too great? which is the least? -/
import Derived.Test.YtnmfgcdenngpfaaRecordBase
namespace Go.Proofs.Ytnmfgcdenngpfaa.Record
open Go.RowKit Go.Sort

theorem any_take (xs : List Int) (f : Int → Bool) (k : Nat) (h : k < xs.length) (ht : (xs.take k).any f = false) (hy : f (xs.getD k 0) = false) : (xs.take (k + 1)).any f = false := by
  rw [take_next xs k h, List.any_append, ht, List.any_cons, hy]; rfl

theorem any_at (xs : List Int) (f : Int → Bool) (k : Nat) (h : k < xs.length) (hy : f (xs.getD k 0) = true) : xs.any f = true := by
  rw [List.any_eq_true]
  exact ⟨xs.getD k 0, by simp [List.getD, h], hy⟩

set_option maxHeartbeats 400000 in
theorem index_is (A : Option Addr) (n c : Nat) (xs : List Int) (w : World) (hn : n = xs.length) (hlen : n ≤ 9223372036854775807) (B : Nat) (hx : Nums w B A xs) (v : Bool) (hv : xs.any bigB = v) :
    Calls Try.prog 65 #[.slice A n c, .func (.func 64) #[] #[]] w fun e w' => (∃ r : Int, decide (0 ≤ r) = v ∧ e = .returned (.int .i64 r)) ∧ w = w' := by
  have HX := Lib.hid hx
  have HV := Lib.hid hv
  have HN := Lib.hid hn
  clear hx hv hn
  go_enter Try.func65, Try.ntmps65
  go_wp2
  go_loop [8] (fun i => ∃ k : Nat, k ≤ n ∧ i = .int .i64 k ∧ (xs.take k).any bigB = false) (fun i => n - (intOf i).toNat)
  case atStart => exact ⟨0, Nat.zero_le _, rfl, by simp⟩
  case round =>
    obtain ⟨k, hk, rfl, hal⟩ := hrel
    have HA := Lib.hid hal
    clear hal
    by_cases hlt : k < n
    · obtain ⟨ad, hA, _, hcx⟩ := HX.out k (by rw [← HN.out]; exact hlt)
      subst hA
      obtain ⟨y, hy⟩ : ∃ y, y = xs.getD k 0 := ⟨_, rfl⟩
      rw [← hy] at hcx
      obtain ⟨u, hu⟩ : ∃ u, bigB y = u := ⟨_, rfl⟩
      have HY := Lib.hid hy
      have HU := Lib.hid hu
      clear hy hu
      cases u
      · go_wp2_with fail
        refine (out_is _ _ HU.out _).mono ?_; rintro e w' ⟨rfl, rfl⟩
        go_wp2_with fail
        go_round
        case rel => exact ⟨k + 1, by omega, by go_num, any_take xs _ k (by rw [← HN.out]; exact hlt) HA.out (by rw [← HY.out]; exact HU.out)⟩
        case measure => simp [intOf]; omega
      · go_wp2_with fail
        refine (out_is _ _ HU.out _).mono ?_; rintro e w' ⟨rfl, rfl⟩
        go_wp2_with fail
        go_ret
        exact ⟨⟨k, by rw [← HV.out, any_at xs _ k (by rw [← HN.out]; exact hlt) (by rw [← HY.out]; exact HU.out)]; simp, rfl⟩, rfl⟩
    · have hv : v = false := by rw [← HV.out]; have := HA.out; rwa [List.take_of_length_le (by rw [← HN.out]; omega)] at this
      have HV2 := Lib.hid hv
      clear hv
      go_wp2
      go_ret
      exact ⟨⟨-1, by rw [HV2.out]; simp, rfl⟩, rfl⟩

set_option maxHeartbeats 400000 in
theorem contains_is (A : Option Addr) (n c : Nat) (xs : List Int) (w : World) (hn : n = xs.length) (hlen : n ≤ 9223372036854775807) (B : Nat) (hx : Nums w B A xs) (v : Bool) (hv : xs.any bigB = v) :
    Calls Try.prog 63 #[.slice A n c, .func (.func 64) #[] #[]] w fun e w' => e = .returned (.bool v) ∧ w = w' := by
  have HX := Lib.hid hx
  have HV := Lib.hid hv
  have HN := Lib.hid hn
  clear hx hv hn
  go_enter Try.func63, Try.ntmps63
  go_wp2_with fail
  refine (index_is _ _ _ xs _ HN.out hlen B HX.out v HV.out).mono ?_; rintro e w' ⟨⟨r, hr, rfl⟩, rfl⟩
  have HR := Lib.hid hr
  clear hr
  go_wp2_with fail
  go_ret
  exact ⟨ret_bool HR.out, rfl⟩

set_option maxHeartbeats 400000 in
theorem toobig_is (A : Option Addr) (n c : Nat) (xs : List Int) (w : World) (hn : n = xs.length) (hlen : n ≤ 9223372036854775807) (B : Nat) (hx : Nums w B A xs) (v : Bool) (hv : xs.any bigB = v) :
    Calls Try.prog 51 #[.slice A n c] w fun e w' => e = .returned (.bool v) ∧ w = w' := by
  have HX := Lib.hid hx
  have HV := Lib.hid hv
  have HN := Lib.hid hn
  clear hx hv hn
  go_enter Try.func51, Try.ntmps51
  go_wp2_with fail
  refine (contains_is _ _ _ xs _ HN.out hlen B HX.out v HV.out).mono ?_; rintro e w' ⟨rfl, rfl⟩
  go_wp2_with fail
  go_ret
  exact ⟨rfl, rfl⟩

/-- The least of a list. -/
def minOf (xs : List Int) : Int := xs.foldl min (xs.getD 0 0)

theorem minOf_take (xs : List Int) (k : Nat) (h : k < xs.length) : (xs.take (k + 1)).foldl min (xs.getD 0 0) = min ((xs.take k).foldl min (xs.getD 0 0)) (xs.getD k 0) := by
  rw [take_next xs k h, List.foldl_append]; rfl

theorem minOf_one (xs : List Int) (h : 0 < xs.length) : (xs.take 1).foldl min (xs.getD 0 0) = xs.getD 0 0 := by
  have := minOf_take xs 0 h; simpa using this

set_option maxHeartbeats 400000 in
theorem min_any (A : Option Addr) (n c : Nat) (xs : List Int) (w : World) (hn : n = xs.length) (h0 : 0 < n) (hlen : n ≤ 9223372036854775807) (B : Nat) (hx : Nums w B A xs) :
    Calls Try.prog 60 #[.slice A n c] w fun e w' => e = .returned (.int .i64 (minOf xs)) ∧ w = w' := by
  have HX := Lib.hid hx
  have HN := Lib.hid hn
  clear hx hn
  obtain ⟨ad, hA, _, hc0⟩ := HX.out 0 (by rw [← HN.out]; exact h0)
  subst hA
  obtain ⟨y0, hy0⟩ : ∃ y, y = xs.getD 0 0 := ⟨_, rfl⟩
  rw [← hy0] at hc0
  have HY0 := Lib.hid hy0
  clear hy0
  simp only [go_sem] at hc0
  go_enter Try.func60, Try.ntmps60
  go_wp2
  go_loop [3, 4] (fun v i => ∃ k : Nat, ∃ m : Int, 1 ≤ k ∧ k ≤ n ∧ i = .int .i64 k ∧ v = .int .i64 m ∧ m = (xs.take k).foldl min (xs.getD 0 0)) (fun _ i => n - (intOf i).toNat)
  case atStart => exact ⟨1, y0, Nat.le_refl _, by omega, rfl, rfl, by rw [minOf_one xs (by rw [← HN.out]; exact h0)]; exact HY0.out⟩
  case round =>
    obtain ⟨k, m, hk1, hk, rfl, rfl, hm⟩ := hrel
    have HM := Lib.hid hm
    clear hm
    by_cases hlt : k < n
    · obtain ⟨ad2, hA2, _, hcx⟩ := HX.out k (by rw [← HN.out]; exact hlt)
      cases hA2
      obtain ⟨y, hy⟩ : ∃ y, y = xs.getD k 0 := ⟨_, rfl⟩
      rw [← hy] at hcx
      have HY := Lib.hid hy
      clear hy
      have HS := Lib.hid (minOf_take xs k (by rw [← HN.out]; exact hlt))
      go_wp2
      go_round
      case rel => exact ⟨k + 1, min m y, by omega, by omega, by go_num, by simp; split <;> omega, by rw [HS.out, ← HM.out, ← HY.out]⟩
      case measure => simp [intOf]; omega
    · have hv : m = minOf xs := by rw [HM.out, List.take_of_length_le (by rw [← HN.out]; omega)]; rfl
      have HV := Lib.hid hv
      clear hv
      go_wp2
      go_ret
      exact ⟨ret_int HV.out, rfl⟩

end Go.Proofs.Ytnmfgcdenngpfaa.Record
