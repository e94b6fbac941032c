/- The contract of the document's look at numbers: whether all lie within its bounds. -/
import Derived.Test.YtcmfflmclammcaaMid
namespace Go.Proofs.Ytcmfflmclammcaa
open Go.RowKit Go.Sort

def inB (n : Int) : Bool := decide (-1152921504606846976 ≤ n ∧ n ≤ 1152921504606846976)

theorem take_next (xs : List Int) (k : Nat) (h : k < xs.length) : xs.take (k + 1) = xs.take k ++ [xs.getD k 0] := by
  rw [List.take_succ_eq_append_getElem h]; simp [List.getD, h]

theorem all_out (xs : List Int) (k : Nat) (h : k < xs.length) (y : Int) (hy : y = xs.getD k 0) (hb : inB y = false) : xs.all inB = false := by
  rw [List.all_eq_false]
  refine ⟨y, ?_, by rw [hb]; simp⟩
  rw [hy]; simp [List.getD, h]

theorem ret_bool {a b : Bool} (h : a = b) : Ending.returned (.bool a) = .returned (.bool b) := by rw [h]

set_option maxHeartbeats 400000 in
theorem small_is (b o c : Nat) (xs : List Int) (w : World) (hlen : xs.length ≤ 1000000) (hx : ∀ k, k < xs.length → w.cell? ⟨b, o + k, none⟩ = some (.int .i64 (xs.getD k 0))) (v : Bool)
    (hv : xs.all inB = v) :
    Calls Try.prog 6 #[.slice (some ⟨b, o, none⟩) xs.length c] w fun e w' => e = .returned (.bool v) ∧ w = w' := by
  have HX := Lib.hid hx
  have HV := Lib.hid hv
  clear hx hv
  obtain ⟨n, hn⟩ : ∃ n, n = xs.length := ⟨_, rfl⟩
  rw [← hn] at hlen ⊢
  have HN := Lib.hid hn
  clear hn
  go_enter Try.func6, Try.ntmps6
  go_wp2
  go_loop [3] (fun i => ∃ k : Nat, k ≤ n ∧ i = .int .i64 k ∧ (xs.take k).all inB = true) (fun i => n - (intOf i).toNat)
  case atStart => exact ⟨0, Nat.zero_le _, rfl, by simp⟩
  case round =>
    obtain ⟨k, hk, rfl, hal⟩ := hrel
    have HA := Lib.hid hal
    clear hal
    by_cases hlt : k < n
    · have hcx := HX.out k (by rw [← HN.out]; exact hlt)
      obtain ⟨y, hy⟩ : ∃ y, y = xs.getD k 0 := ⟨_, rfl⟩
      rw [← hy] at hcx
      have HY := Lib.hid hy
      clear hy
      go_wp2
      · go_ret
        exact ⟨ret_bool (by rw [← HV.out, all_out xs k (by rw [← HN.out]; exact hlt) y HY.out (by unfold inB; simp; omega)]), rfl⟩
      · have h1 : inB y = true := by unfold inB; simp; omega
        go_round
        case rel => exact ⟨k + 1, by omega, by go_num, by rw [take_next xs k (by rw [← HN.out]; exact hlt), ← HY.out, List.all_append, HA.out]; simp [h1]⟩
        case measure => simp [intOf]; omega
      · go_ret
        exact ⟨ret_bool (by rw [← HV.out, all_out xs k (by rw [← HN.out]; exact hlt) y HY.out (by unfold inB; simp; omega)]), rfl⟩
    · have hv : v = true := by rw [← HV.out]; have := HA.out; rwa [List.take_of_length_le (by rw [← HN.out]; omega)] at this
      have HV2 := Lib.hid hv
      clear hv
      go_wp2
      go_ret
      exact ⟨ret_bool HV2.out.symm, rfl⟩

theorem small4 (b : Nat) (x0 x1 x2 x3 : Int) (w : World) (h0 : w.cell? ⟨b, 0, none⟩ = some (.int .i64 x0)) (h1 : w.cell? ⟨b, 1, none⟩ = some (.int .i64 x1))
    (h2 : w.cell? ⟨b, 2, none⟩ = some (.int .i64 x2)) (h3 : w.cell? ⟨b, 3, none⟩ = some (.int .i64 x3)) (v : Bool) (hv : [x0, x1, x2, x3].all inB = v) :
    Calls Try.prog 6 #[.slice (some ⟨b, 0, none⟩) 4 4] w fun e w' => e = .returned (.bool v) ∧ w = w' :=
  small_is b 0 4 [x0, x1, x2, x3] w (by simp) (fun k hk => by
    match k, hk with
    | 0, _ => exact h0
    | 1, _ => exact h1
    | 2, _ => exact h2
    | 3, _ => exact h3
    | k + 4, h => (simp only [List.length_cons, List.length_nil] at h; omega)) v hv

end Go.Proofs.Ytcmfflmclammcaa
