/- The contracts of the document's own looks at one float: is it near, does it count. -/
import Derived.Test.YtpfcefflcmeobaaShelfSMath2
import Derived.Test.YtpfcefflcmeobaaRectFour
import Derived.Test.YtpfcefflcmeobaaLib
import Derived.BigQuiet
import Derived.Deep.DeepCutAuto
namespace Go.Proofs.Ytpfcefflcmeobaa.Shelf
open Go.RowKit Go.Sort Go.Proofs.Ytpfcefflcmeobaa.Rect

abbrev Fl.v (f : Fl) : Value := .agg #[.int .i64 f.s, .int .i64 f.l, .int .i64 f.t, .int .i64 f.r, .int .i64 f.b]

def inS (x : Int) : Bool := decide (-2251799813685248 < x) && decide (x < 2251799813685248)
theorem inS_iff {x : Int} : inS x = true ↔ -2251799813685248 < x ∧ x < 2251799813685248 := by unfold inS; simp

theorem ret_b {a b : Bool} (h : a = b) : Ending.returned (.bool a) = .returned (.bool b) := by rw [h]
theorem take_s (xs : List Int) (k : Nat) (h : k < xs.length) : xs.take (k + 1) = xs.take k ++ [xs.getD k 0] := by
  rw [List.take_succ_eq_append_getElem h]; simp [List.getD, h]
theorem all_s (xs : List Int) (k : Nat) (h : k < xs.length) (y : Int) (hy : y = xs.getD k 0) (hb : inS y = false) : xs.all inS = false := by
  rw [List.all_eq_false]
  refine ⟨y, ?_, by rw [hb]; simp⟩
  rw [hy]; simp [List.getD, h]

set_option maxHeartbeats 1000000 in
theorem smallR_is (l t r b : Int) (v : Bool) (hv : [l, t, r, b].all inS = v) (w : World) :
    Calls Try.prog 33 #[.agg #[.int .i64 l, .int .i64 t, .int .i64 r, .int .i64 b]] w fun e w' => e = .returned (.bool v) ∧ Below w.heap.size w w' := by
  obtain ⟨xs, hxs⟩ : ∃ xs, [l, t, r, b] = xs := ⟨_, rfl⟩
  have hn : xs.length = 4 := by rw [← hxs]; rfl
  rw [hxs] at hv
  have HV := Lib.hid hv
  have HN := Lib.hid hn
  clear hv hn
  go_enter Try.func33, Try.ntmps33
  go_upto_region 1 with fail
  generalize hW : World.alloc w _ = W
  have HX : Hid (∀ k, k < 4 → W.cell? ⟨w.heap.size, k, none⟩ = some (.int .i64 (xs.getD k 0))) := Lib.hid (by
    intro k hk
    rw [← hW, ← hxs]
    match k, hk with
    | 0, _ => simp [go_sem]
    | 1, _ => simp [go_sem]
    | 2, _ => simp [go_sem]
    | 3, _ => simp [go_sem]
    | k + 4, h => omega)
  have HB := Lib.hid (show Below w.heap.size w W by rw [← hW]; exact ba1 _ _)
  clear hW hxs
  go_wp2_with fail
  go_loop [3] (fun i => ∃ k : Nat, k ≤ 4 ∧ i = .int .i64 k ∧ (xs.take k).all inS = true) (fun i => 4 - (intOf i).toNat)
  case atStart => exact ⟨0, Nat.zero_le _, rfl, by simp⟩
  case round =>
    obtain ⟨k, hk, rfl, hal⟩ := hrel
    have HA := Lib.hid hal
    clear hal
    by_cases hlt : k < 4
    · have hcx := HX.out k hlt
      have hk4 : (k : Int) < 4 := by omega
      have hk0 : ¬ (k : Int) < 0 := by omega
      obtain ⟨y, hy⟩ : ∃ y, y = xs.getD k 0 := ⟨_, rfl⟩
      rw [← hy] at hcx
      have HY := Lib.hid hy
      clear hy
      by_cases c1 : y ≤ -2251799813685248
      · go_wp2_with fail
        go_ret
        exact ⟨ret_b (by rw [← HV.out, all_s xs k (by rw [HN.out]; exact hlt) y HY.out (by unfold inS; simp; omega)]), HB.out⟩
      · by_cases c2 : 2251799813685248 ≤ y
        · go_wp2_with fail
          go_ret
          exact ⟨ret_b (by rw [← HV.out, all_s xs k (by rw [HN.out]; exact hlt) y HY.out (by unfold inS; simp; omega)]), HB.out⟩
        · have h1 : inS y = true := inS_iff.2 ⟨by omega, by omega⟩
          go_wp2_with fail
          go_round
          case rel => exact ⟨k + 1, by omega, by go_num, by rw [take_s xs k (by rw [HN.out]; exact hlt), ← HY.out, List.all_append, HA.out]; simp [h1]⟩
          case measure => simp [intOf]; omega
    · have hv : v = true := by rw [← HV.out]; have := HA.out; rwa [List.take_of_length_le (by rw [HN.out]; omega)] at this
      have HV2 := Lib.hid hv
      clear hv
      have hk4 : ¬ (k : Int) < 4 := by omega
      go_wp2_with fail
      go_ret
      exact ⟨ret_b HV2.out.symm, HB.out⟩

set_option maxHeartbeats 1000000 in
theorem counts_is (f : Fl) (v : Bool) (hv : cntF f = v) (w : World) :
    Calls Try.prog 47 #[f.v] w fun e w' => e = .returned (.bool v) ∧ Below w.heap.size w w' := by
  have HF := Lib.hid (fun x hx w => rfull_is f.l f.t f.r f.b x hx w)
  obtain ⟨x, hx⟩ : ∃ x : Bool, (decide (f.l < f.r) && decide (f.t < f.b)) = x := ⟨_, rfl⟩
  have HX := Lib.hid hx
  unfold cntF at hv
  rw [hx] at hv
  have HV := Lib.hid hv
  clear hx hv
  cases x
  · go_enter Try.func47, Try.ntmps47
    go_wp2_with (first
      | (go_at_call 55; refine (HF.out _ HX.out _).mono ?_; rintro e w1 ⟨rfl, k1⟩; have K1 := Lib.hid (thru (ba1 w _) k1); clear k1))
    go_ret
    exact ⟨ret_b (by rw [← HV.out]; rfl), K1.out⟩
  · by_cases h1 : f.s = 1
    · have h1b : (f.s == 1) = true := by simp [h1]
      have hv1 : v = true := by rw [← HV.out]; simp [h1]
      subst hv1
      clear h1
      go_enter Try.func47, Try.ntmps47
      go_wp2_with (first
        | (go_at_call 55; refine (HF.out _ HX.out _).mono ?_; rintro e w1 ⟨rfl, k1⟩; obtain ⟨hc, -⟩ := bcell k1; have K1 := Lib.hid (thru (ba1 w _) k1); clear k1))
      go_ret
      exact ⟨rfl, K1.out⟩
    · have h1b : (f.s == 1) = false := by rw [beq_eq_false_iff_ne]; exact h1
      obtain ⟨y, hy⟩ : ∃ y : Bool, (f.s == 2) = y := ⟨_, rfl⟩
      have hvy : y = v := by rw [← HV.out, ← hy]; by_cases h2 : f.s = 2 <;> simp [h1, h2]
      subst hvy
      clear h1
      go_enter Try.func47, Try.ntmps47
      go_wp2_with (first
        | (go_at_call 55; refine (HF.out _ HX.out _).mono ?_; rintro e w1 ⟨rfl, k1⟩; obtain ⟨hc, -⟩ := bcell k1; have K1 := Lib.hid (thru (ba1 w _) k1); clear k1))
      go_ret
      exact ⟨rfl, K1.out⟩

end Go.Proofs.Ytpfcefflcmeobaa.Shelf
