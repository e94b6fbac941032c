/- The walk of ScriptReads, whatever the program's own functions look like that keep their contracts. -/
import Derived.Test.YtleikbpikmineaaScriptWrites
import Derived.Test.YtleikbpikmineaaScriptDecNo
namespace Go.Proofs.Ytleikbpikmineaa.Script
open Go.RowKit Go.Sort Go.Proofs.Ytleikbpikmineaa.Record

/-- Decode tells that numbers are no whole boxes. -/
def DecodeShort : Prop := ∀ (A : Option Addr) (n c : Nat) (w : World), n ≤ 9223372036854775807 → ¬ n % 14 = 0 →
  Calls Try.prog 13 #[.slice A n c] w fun e w' => (∃ A' c', e = .returned (.tuple #[.slice A' 0 c', .int .i64 2])) ∧ Below w.heap.size w w'

theorem nums_boxAt (xs : List Int) (i : Nat) (h : i + 14 ≤ xs.length) : numsOf (boxAt xs i) = (xs.drop i).take 14 := by
  have e : ∀ j, j < 14 → xs.getD (i + j) 0 = xs[i + j]?.getD 0 := fun j _ => by simp [List.getD]
  apply List.ext_getElem?
  intro k
  rcases Nat.lt_or_ge k 14 with hk | hk
  · rw [List.getElem?_take, if_pos hk, List.getElem?_drop]
    have hi : i + k < xs.length := by omega
    rw [List.getElem?_eq_getElem hi]
    have hg : xs.getD (i + k) 0 = xs[i + k] := by simp [List.getD, hi]
    obtain rfl | rfl | rfl | rfl | rfl | rfl | rfl | rfl | rfl | rfl | rfl | rfl | rfl | rfl : k = 0 ∨ k = 1 ∨ k = 2 ∨ k = 3 ∨ k = 4 ∨ k = 5 ∨ k = 6 ∨ k = 7 ∨ k = 8 ∨ k = 9 ∨ k = 10 ∨ k = 11 ∨ k = 12 ∨ k = 13 := by omega
    all_goals (rw [← hg]; rfl)
  · rw [List.getElem?_eq_none (by show 14 ≤ k; exact hk), List.getElem?_eq_none (by rw [List.length_take]; omega)]

theorem flat_boxesOf (xs : List Int) : ∀ m, m * 14 ≤ xs.length → (boxesOf xs m).flatMap numsOf = xs.take (m * 14)
  | 0, _ => by simp [boxesOf]
  | m + 1, h => by
    rw [boxesOf_next, List.flatMap_append, flat_boxesOf xs m (by omega), show (m + 1) * 14 = m * 14 + 14 by omega, List.take_add]
    simp [nums_boxAt xs (m * 14) (by omega)]

theorem boxesOf_len (xs : List Int) (m : Nat) : (boxesOf xs m).length = m := by simp [boxesOf]

set_option maxRecDepth 100000 in
set_option maxHeartbeats 1000000 in
theorem reads_short (hS : SpeaksOk) (hD : DecodeShort) (A : Option Addr) (n c : Nat) (w : World) (h900 : n ≤ 900) (h14 : ¬ n % 14 = 0) :
    Calls Try.prog 4 #[.slice A n c] w fun e w' => e = .returned (.bool true) ∧ Below w.heap.size w w' := by
  have HS := Lib.hid hS
  have HD := Lib.hid hD
  have H14 := Lib.hid h14
  clear hS hD h14
  go_enter Try.func4, Try.ntmps4
  go_wp2_with fail
  refine (HS.out _).mono ?_; rintro e w1 ⟨rfl, k1⟩
  go_wp2_with fail
  refine (HD.out A n c w1 (by omega) H14.out).mono ?_; rintro e w2 ⟨⟨A2, c2, rfl⟩, k2⟩
  go_wp2_with fail
  refine (refdec_short A n c w2 (by omega) H14.out).mono ?_; rintro e w3 ⟨rfl, rfl⟩
  go_wp2_with fail
  go_loopw [39] (fun i wr => i = .int .i64 0 ∧ wr = w2) (fun _ _ => 0)
  case atStart => exact ⟨rfl, rfl⟩
  case round =>
    obtain ⟨rfl, hw⟩ := hrel
    subst hw
    go_wp2_with fail
    go_ret
    exact ⟨rfl, thru k1 k2⟩

set_option maxRecDepth 100000 in
set_option maxHeartbeats 2000000 in
theorem reads_whole (hS : SpeaksOk) (hE : EncodeOk) (hD : DecodeOk) (A : Option Addr) (m c : Nat) (xs : List Int) (w : World) (hn : m * 14 = xs.length) (h900 : m * 14 ≤ 900) (hcap : m * 14 ≤ c) (hx : Nums w w.heap.size A xs) :
    Calls Try.prog 4 #[.slice A (m * 14) c] w fun e w' => e = .returned (.bool true) ∧ Below w.heap.size w w' := by
  have HX := Lib.hid hx
  have HN := Lib.hid hn
  have HS := Lib.hid hS
  have HE := Lib.hid hE
  have HD := Lib.hid hD
  clear hx hn hS hE hD
  have hm : m ≤ 64 := by omega
  go_enter Try.func4, Try.ntmps4
  go_wp2_with fail
  refine (HS.out _).mono ?_; rintro e w1 ⟨rfl, k1⟩
  have K1 := Lib.hid k1
  have HX1 := Lib.hid (HX.out.thru k1)
  clear k1
  go_wp2_with fail
  refine (HD.out A m c xs w1 HN.out (by omega) hcap HX1.out).mono ?_; rintro e w2 ⟨⟨A2, c2, rfl, m2⟩, k2⟩
  have K2 := Lib.hid (thru K1.out k2)
  have HX2 := Lib.hid (HX1.out.thru k2)
  have Y2 := Lib.hid m2.boxes
  clear k2 m2
  go_wp2_with fail
  refine (refdec_yes A m c xs w2 HN.out (by omega) HX2.out).mono ?_; rintro e w3 ⟨⟨A3, c3, rfl, m3⟩, k3⟩
  have K3 := Lib.hid (thru K2.out k3)
  have HX3 := Lib.hid (HX2.out.thru k3)
  have Y3 := Lib.hid (Y2.out.thru k3)
  have Z3 := Lib.hid m3.boxes
  clear k3 m3
  have HL := Lib.hid (boxesOf_len xs m)
  have HF := Lib.hid (show (boxesOf xs m).flatMap numsOf = xs by rw [flat_boxesOf xs m (by rw [HN.out]; exact Nat.le_refl _), HN.out, List.take_length])
  generalize boxesOf xs m = bs at *
  go_wp2_with fail
  go_loopw [39] (fun i wr => ∃ k : Nat, k ≤ m ∧ i = .int .i64 (k : Int) ∧ Hid (Below w3.heap.size w3 wr)) (fun i _ => m - (intOf i).toNat)
  case atStart => exact ⟨0, by omega, rfl, Lib.hid (Below.refl _ _)⟩
  case round =>
    obtain ⟨k, hk, rfl, H⟩ := hrel
    by_cases hlt : k < m
    · obtain ⟨ad, hA, hAb, hcx⟩ := (Z3.out.below H.out) k (by rw [HL.out]; exact hlt)
      have HAb := Lib.hid hAb
      clear hAb
      obtain ⟨ad2, hA2, _, hcy⟩ := (Y3.out.below H.out) k (by rw [HL.out]; exact hlt)
      subst hA hA2
      generalize bs.getD k noB = y at hcx hcy
      have HCX := Lib.hid hcx
      obtain ⟨c0, c1, c2, c3, c4, c5, c6, c7, c8, c9, c10, c11, c12, c13⟩ := hcy
      clear hcx
      go_upto_region 10 with fail
      clear c0 c1 c2 c3 c4 c5 c6 c7 c8 c9 c10 c11 c12 c13
      generalize hW : World.alloc wr _ = W
      obtain ⟨at1, k1⟩ := box_in y hW
      have HB := Lib.hid (thru H.out k1)
      have hcx := HCX.out.below (by rw [block_of_add]; exact Nat.lt_of_lt_of_le HAb.out H.out.size) k1
      clear hW k1
      unfold At at at1
      unfold AtP at hcx
      obtain ⟨c0, c1, c2, c3, c4, c5, c6, c7, c8, c9, c10, c11, c12, c13⟩ := at1
      obtain ⟨d0, d1, d2, d3, d4, d5, d6, d7, d8, d9, d10, d11, d12, d13⟩ := hcx
      replace c0 := fun d os => cell_regrown c0 (d := d) (os := os)
      replace d0 := fun d os => cell_regrown d0 (d := d) (os := os)
      replace c1 := fun d os => cell_regrown c1 (d := d) (os := os)
      replace d1 := fun d os => cell_regrown d1 (d := d) (os := os)
      replace c2 := fun d os => cell_regrown c2 (d := d) (os := os)
      replace d2 := fun d os => cell_regrown d2 (d := d) (os := os)
      replace c3 := fun d os => cell_regrown c3 (d := d) (os := os)
      replace d3 := fun d os => cell_regrown d3 (d := d) (os := os)
      replace c4 := fun d os => cell_regrown c4 (d := d) (os := os)
      replace d4 := fun d os => cell_regrown d4 (d := d) (os := os)
      replace c5 := fun d os => cell_regrown c5 (d := d) (os := os)
      replace d5 := fun d os => cell_regrown d5 (d := d) (os := os)
      replace c6 := fun d os => cell_regrown c6 (d := d) (os := os)
      replace d6 := fun d os => cell_regrown d6 (d := d) (os := os)
      replace c7 := fun d os => cell_regrown c7 (d := d) (os := os)
      replace d7 := fun d os => cell_regrown d7 (d := d) (os := os)
      replace c8 := fun d os => cell_regrown c8 (d := d) (os := os)
      replace d8 := fun d os => cell_regrown d8 (d := d) (os := os)
      replace c9 := fun d os => cell_regrown c9 (d := d) (os := os)
      replace d9 := fun d os => cell_regrown d9 (d := d) (os := os)
      replace c10 := fun d os => cell_regrown c10 (d := d) (os := os)
      replace d10 := fun d os => cell_regrown d10 (d := d) (os := os)
      replace c11 := fun d os => cell_regrown c11 (d := d) (os := os)
      replace d11 := fun d os => cell_regrown d11 (d := d) (os := os)
      replace c12 := fun d os => cell_regrown c12 (d := d) (os := os)
      replace d12 := fun d os => cell_regrown d12 (d := d) (os := os)
      replace c13 := fun d os => cell_regrown c13 (d := d) (os := os)
      replace d13 := fun d os => cell_regrown d13 (d := d) (os := os)
      have E := eqBox y
      refine wp_region_quiet_below (by kernel_rfl) (by kernel_rfl) ?_
      repeat (quiet_step (first
        | (go_at_call 14; exact Calls.regrown_of (of_any y _))))
      refine wpQuiet_nil ?_
      intro _ hw'
      obtain ⟨⟨dq4, os4⟩, hw''⟩ := hw'
      subst hw''
      clear c0 c1 c2 c3 c4 c5 c6 c7 c8 c9 c10 c11 c12 c13 d0 d1 d2 d3 d4 d5 d6 d7 d8 d9 d10 d11 d12 d13 E
      have q4 := below_regrown W dq4 os4
      generalize grow (redrawn W dq4) os4 = w7 at q4 ⊢
      have HB7 := Lib.hid (thru HB.out q4)
      clear q4
      go_wp2_with fail
      go_roundw
      case rel => exact ⟨k + 1, by omega, by go_num, HB7⟩
      case measure => simp [intOf]; omega
    · obtain rfl : k = m := by omega
      go_wp2_with fail
      refine (HE.out A2 k c2 bs wr HL.out.symm (by omega) (Y3.out.thru H.out)).mono ?_; rintro e w4 ⟨⟨A4, c4, rfl, m4⟩, k4⟩
      rw [HF.out] at m4
      have K4 := Lib.hid (thru (thru K3.out H.out) k4)
      have HX4 := Lib.hid ((HX3.out.thru H.out).thru k4)
      have N4 := Lib.hid m4.nums
      clear k4 m4
      go_wp2_with fail
      refine (same_yes A4 (k * 14) c4 A c xs w4 HN.out (by omega) N4.out HX4.out).mono ?_; rintro e w5 ⟨rfl, k5⟩
      have K5 := Lib.hid (thru K4.out k5)
      clear k5
      go_wp2_with fail
      go_ret
      exact ⟨rfl, K5.out⟩

set_option maxRecDepth 100000 in
set_option maxHeartbeats 1000000 in
theorem reads_long (hS : SpeaksOk) (A : Option Addr) (n c : Nat) (w : World) (h60 : ¬ n ≤ 900) :
    Calls Try.prog 4 #[.slice A n c] w fun e w' => e = .returned (.bool true) ∧ Below w.heap.size w w' := by
  have HS := Lib.hid hS
  clear hS
  have h61 : (900 : Int) < (n : Int) := by omega
  go_enter Try.func4, Try.ntmps4
  go_wp2_with fail
  refine (HS.out _).mono ?_; rintro e w1 ⟨rfl, k1⟩
  go_wp2_with fail
  refine (HS.out _).mono ?_; rintro e w2 ⟨rfl, k2⟩
  go_wp2_with fail
  go_ret
  exact ⟨rfl, thru k1 k2⟩

theorem reads_any (hS : SpeaksOk) (hE : EncodeOk) (hD : DecodeOk) (hN : DecodeShort) (A : Option Addr) (n c : Nat) (xs : List Int) (w : World) (hn : n = xs.length) (hcap : n ≤ c) (hx : Nums w w.heap.size A xs) :
    Calls Try.prog 4 #[.slice A n c] w fun e w' => e = .returned (.bool true) ∧ Below w.heap.size w w' := by
  by_cases h900 : n ≤ 900
  · by_cases h14 : n % 14 = 0
    · obtain ⟨m, rfl⟩ : ∃ m, n = m * 14 := ⟨n / 14, by omega⟩
      exact reads_whole hS hE hD A m c xs w hn h900 hcap hx
    · exact reads_short hS hN A n c w h900 h14
  · exact reads_long hS A n c w h900

end Go.Proofs.Ytleikbpikmineaa.Script
