/- The walk of ScriptWrites, whatever the program's own functions look like that keep their contracts. -/
import Derived.Test.YtleikbpikmineaaScriptEnc
import Derived.Test.YtleikbpikmineaaScriptSame
import Derived.Test.YtleikbpikmineaaScriptDec
import Derived.Test.YtleikbpikmineaaScriptEq
import Derived.Test.YtleikbpikmineaaScriptCounts
namespace Go.Proofs.Ytleikbpikmineaa.Script
open Go.RowKit Go.Sort Go.Proofs.Ytleikbpikmineaa.Record

/-- Encode gives the boxes' numbers. -/
def EncodeOk : Prop := ∀ (A : Option Addr) (n c : Nat) (bs : List Bx) (w : World), n = bs.length → n ≤ 1000 → Boxes w w.heap.size A bs →
  Calls Try.prog 9 #[.slice A n c] w fun e w' => (∃ A' c', e = .returned (.slice A' (n * 14) c') ∧ Mine w' w.heap.size A' (n * 14) c' (bs.flatMap numsOf)) ∧ Below w.heap.size w w'

/-- Decode gives the numbers' boxes. -/
def DecodeOk : Prop := ∀ (A : Option Addr) (m c : Nat) (xs : List Int) (w : World), m * 14 = xs.length → m ≤ 65536 → m * 14 ≤ c → Nums w w.heap.size A xs →
  Calls Try.prog 13 #[.slice A (m * 14) c] w fun e w' => (∃ A' c', e = .returned (.tuple #[.slice A' m c', .int .i64 0]) ∧ MineB 35 w' w.heap.size A' m c' (boxesOf xs m)) ∧ Below w.heap.size w w'

theorem Mine.cap {w : World} {B : Nat} {A : Option Addr} {n c : Nat} {xs : List Int} (h : Mine w B A n c xs) : n ≤ c := by
  rcases h.2 with ⟨e, h0⟩ | ⟨g, cap, cur, e, _, _, hc, _⟩
  · omega
  · injection e with _ _ e3
    omega

theorem nums_flat_at (bs : List Bx) : ∀ (k : Nat), k < bs.length → ∀ j, j < 14 → (bs.flatMap numsOf).getD (k * 14 + j) 0 = (numsOf (bs.getD k noB)).getD j 0 := by
  induction bs with
  | nil => intro k hk; simp at hk
  | cons b bs ih =>
    intro k hk j hj
    have hl : (numsOf b).length = 14 := rfl
    rw [List.flatMap_cons]
    cases k with
    | zero =>
      simp only [List.getD_eq_getElem?_getD]
      rw [List.getElem?_append_left (by rw [hl]; omega)]
      simp
    | succ k =>
      have := ih k (by simpa using hk) j hj
      simp only [List.getD_eq_getElem?_getD] at this ⊢
      rw [List.getElem?_append_right (by rw [hl]; omega), hl, show (k + 1) * 14 + j - 14 = k * 14 + j by omega, this]
      simp

theorem boxAt_flat (bs : List Bx) (k : Nat) (hk : k < bs.length) : boxAt (bs.flatMap numsOf) (k * 14) = bs.getD k noB := by
  have h := nums_flat_at bs k hk
  unfold boxAt
  have h0 : (bs.flatMap numsOf).getD (k * 14) 0 = (numsOf (bs.getD k noB)).getD 0 0 := h 0 (by omega)
  rw [h0, h 1 (by omega), h 2 (by omega), h 3 (by omega), h 4 (by omega), h 5 (by omega), h 6 (by omega), h 7 (by omega), h 8 (by omega), h 9 (by omega), h 10 (by omega), h 11 (by omega), h 12 (by omega), h 13 (by omega)]
  rfl

theorem boxesOf_flat (bs : List Bx) : boxesOf (bs.flatMap numsOf) bs.length = bs := by
  unfold boxesOf
  apply List.ext_getElem
  · simp
  · intro k h1 h2
    simp only [List.getElem_map, List.getElem_range]
    rw [boxAt_flat bs k h2]
    simp [List.getD, h2]

set_option maxRecDepth 100000 in
set_option maxHeartbeats 2000000 in
theorem writes_few (hS : SpeaksOk) (hE : EncodeOk) (hD : DecodeOk) (A : Option Addr) (n c : Nat) (bs : List Bx) (w : World) (hn : n = bs.length) (h60 : n ≤ 60) (hx : Boxes w w.heap.size A bs) :
    Calls Try.prog 3 #[.slice A n c] w fun e w' => e = .returned (.bool true) ∧ Below w.heap.size w w' := by
  have HX := Lib.hid hx
  have HN := Lib.hid hn
  have HS := Lib.hid hS
  have HE := Lib.hid hE
  have HD := Lib.hid hD
  clear hx hn hS hE hD
  have hnl : (bs.flatMap numsOf).length = n * 14 := by rw [nums_len, HN.out]
  have HNL := Lib.hid hnl
  clear hnl
  go_enter Try.func3, Try.ntmps3
  go_wp2_with fail
  refine (HS.out _).mono ?_; rintro e w1 ⟨rfl, k1⟩
  have K1 := Lib.hid k1
  have HX1 := Lib.hid (HX.out.thru k1)
  clear k1
  go_wp2_with fail
  refine (ofs_any A n c bs w1 HN.out (by omega) HX1.out).mono ?_; rintro e w2 ⟨⟨A2, c2, rfl, m2⟩, k2⟩
  have K2 := Lib.hid (thru K1.out k2)
  have HX2 := Lib.hid (HX1.out.thru k2)
  have M2 := Lib.hid m2
  clear k2 m2
  go_wp2_with fail
  refine (HE.out A2 n c2 bs w2 HN.out (by omega) M2.out.boxes).mono ?_; rintro e w3 ⟨⟨A3, c3, rfl, m3⟩, k3⟩
  have K3 := Lib.hid (thru K2.out k3)
  have HX3 := Lib.hid (HX2.out.thru k3)
  have M3 := Lib.hid m3
  have C3 := Lib.hid (Mine.cap m3)
  clear k3 m3 M2
  go_wp2_with fail
  refine (refenc_any A n c bs w3 HN.out (by omega) HX3.out).mono ?_; rintro e w4 ⟨⟨A4, c4, rfl, m4⟩, k4⟩
  have K4 := Lib.hid (thru K3.out k4)
  have HX4 := Lib.hid (HX3.out.thru k4)
  have N4 := Lib.hid m4.nums
  have N3 := Lib.hid (M3.out.nums.thru k4)
  clear k4 m4 M3
  go_wp2_with fail
  refine (same_yes A3 (n * 14) c3 A4 c4 (bs.flatMap numsOf) w4 HNL.out.symm (by omega) N3.out N4.out).mono ?_; rintro e w5 ⟨rfl, k5⟩
  have K5 := Lib.hid (thru K4.out k5)
  have HX5 := Lib.hid (HX4.out.thru k5)
  have N5 := Lib.hid (N3.out.thru k5)
  clear k5 N4 N3
  go_wp2_with fail
  refine (HD.out A3 n c3 (bs.flatMap numsOf) w5 HNL.out.symm (by omega) C3.out N5.out).mono ?_; rintro e w6 ⟨⟨A6, c6, rfl, m6⟩, k6⟩
  rw [show boxesOf (bs.flatMap numsOf) n = bs by rw [HN.out]; exact boxesOf_flat bs] at m6
  have K6 := Lib.hid (thru K5.out k6)
  have HX6 := Lib.hid (HX5.out.thru k6)
  have HY6 := Lib.hid m6.boxes
  clear k6 m6 N5
  go_wp2_with fail
  go_loopw [40] (fun i wr => ∃ k : Nat, k ≤ n ∧ i = .int .i64 (k : Int) ∧ Hid (Below w6.heap.size w6 wr)) (fun i _ => n - (intOf i).toNat)
  case atStart => exact ⟨0, by omega, rfl, Lib.hid (Below.refl _ _)⟩
  case round =>
    obtain ⟨k, hk, rfl, H⟩ := hrel
    by_cases hlt : k < n
    · obtain ⟨ad, hA, hAb, hcx⟩ := (HX6.out.below H.out) k (by rw [← HN.out]; exact hlt)
      have HAb := Lib.hid hAb
      have HX6s : Hid (w6.heap.size ≤ w6.heap.size) := Lib.hid (Nat.le_refl _)
      clear hAb
      obtain ⟨ad2, hA2, _, hcy⟩ := (HY6.out.below H.out) k (by rw [← HN.out]; exact hlt)
      subst hA hA2
      generalize bs.getD k noB = y at hcx hcy
      have HCX := Lib.hid hcx
      obtain ⟨c0, c1, c2, c3, c4, c5, c6, c7, c8, c9, c10, c11, c12, c13⟩ := hcy
      clear hcx
      go_upto_region 12 with fail
      clear c0 c1 c2 c3 c4 c5 c6 c7 c8 c9 c10 c11 c12 c13
      generalize hW : World.alloc wr _ = W
      obtain ⟨at1, k1⟩ := box_in y hW
      have HB := Lib.hid (thru H.out k1)
      have hcx := HCX.out.below (by rw [block_of_add]; exact Nat.lt_of_lt_of_le HAb.out (Nat.le_trans HX6s.out H.out.size)) k1
      clear hW k1
      unfold At at at1
      unfold AtP at hcx
      obtain ⟨c0, c1, c2, c3, c4, c5, c6, c7, c8, c9, c10, c11, c12, c13⟩ := at1
      obtain ⟨d0, d1, d2, d3, d4, d5, d6, d7, d8, d9, d10, d11, d12, d13⟩ := hcx
      replace c0 := fun d os => cell_regrown c0 (d := d) (os := os)
      replace d0 := fun d os => cell_regrown d0 (d := d) (os := os)
      replace c1 := fun d os => cell_regrown c1 (d := d) (os := os)
      replace d1 := fun d os => cell_regrown d1 (d := d) (os := os)
      replace c2 := fun d os => cell_regrown c2 (d := d) (os := os)
      replace d2 := fun d os => cell_regrown d2 (d := d) (os := os)
      replace c3 := fun d os => cell_regrown c3 (d := d) (os := os)
      replace d3 := fun d os => cell_regrown d3 (d := d) (os := os)
      replace c4 := fun d os => cell_regrown c4 (d := d) (os := os)
      replace d4 := fun d os => cell_regrown d4 (d := d) (os := os)
      replace c5 := fun d os => cell_regrown c5 (d := d) (os := os)
      replace d5 := fun d os => cell_regrown d5 (d := d) (os := os)
      replace c6 := fun d os => cell_regrown c6 (d := d) (os := os)
      replace d6 := fun d os => cell_regrown d6 (d := d) (os := os)
      replace c7 := fun d os => cell_regrown c7 (d := d) (os := os)
      replace d7 := fun d os => cell_regrown d7 (d := d) (os := os)
      replace c8 := fun d os => cell_regrown c8 (d := d) (os := os)
      replace d8 := fun d os => cell_regrown d8 (d := d) (os := os)
      replace c9 := fun d os => cell_regrown c9 (d := d) (os := os)
      replace d9 := fun d os => cell_regrown d9 (d := d) (os := os)
      replace c10 := fun d os => cell_regrown c10 (d := d) (os := os)
      replace d10 := fun d os => cell_regrown d10 (d := d) (os := os)
      replace c11 := fun d os => cell_regrown c11 (d := d) (os := os)
      replace d11 := fun d os => cell_regrown d11 (d := d) (os := os)
      replace c12 := fun d os => cell_regrown c12 (d := d) (os := os)
      replace d12 := fun d os => cell_regrown d12 (d := d) (os := os)
      replace c13 := fun d os => cell_regrown c13 (d := d) (os := os)
      replace d13 := fun d os => cell_regrown d13 (d := d) (os := os)
      have E := eqBox y
      refine wp_region_quiet_below (by kernel_rfl) (by kernel_rfl) ?_
      repeat (quiet_step (first
        | (go_at_call 14; exact Calls.regrown_of (of_any y _))))
      refine wpQuiet_nil ?_
      intro _ hw'
      obtain ⟨⟨dq4, os4⟩, hw''⟩ := hw'
      subst hw''
      clear c0 c1 c2 c3 c4 c5 c6 c7 c8 c9 c10 c11 c12 c13 d0 d1 d2 d3 d4 d5 d6 d7 d8 d9 d10 d11 d12 d13 E
      have q4 := below_regrown W dq4 os4
      generalize grow (redrawn W dq4) os4 = w7 at q4 ⊢
      have HB7 := Lib.hid (thru HB.out q4)
      clear q4
      go_wp2_with fail
      go_roundw
      case rel => exact ⟨k + 1, by omega, by go_num, HB7⟩
      case measure => simp [intOf]; omega
    · obtain rfl : k = n := by omega
      go_wp2_with fail
      go_ret
      exact ⟨rfl, thru K6.out H.out⟩

set_option maxRecDepth 100000 in
set_option maxHeartbeats 1000000 in
theorem writes_long (hS : SpeaksOk) (A : Option Addr) (n c : Nat) (w : World) (h60 : ¬ n ≤ 60) :
    Calls Try.prog 3 #[.slice A n c] w fun e w' => e = .returned (.bool true) ∧ Below w.heap.size w w' := by
  have HS := Lib.hid hS
  clear hS
  have h61 : (60 : Int) < (n : Int) := by omega
  go_enter Try.func3, Try.ntmps3
  go_wp2_with fail
  refine (HS.out _).mono ?_; rintro e w1 ⟨rfl, k1⟩
  go_wp2_with fail
  refine (HS.out _).mono ?_; rintro e w2 ⟨rfl, k2⟩
  go_wp2_with fail
  go_ret
  exact ⟨rfl, thru k1 k2⟩

theorem writes_any (hS : SpeaksOk) (hE : EncodeOk) (hD : DecodeOk) (A : Option Addr) (n c : Nat) (bs : List Bx) (w : World) (hn : n = bs.length) (hx : Boxes w w.heap.size A bs) :
    Calls Try.prog 3 #[.slice A n c] w fun e w' => e = .returned (.bool true) ∧ Below w.heap.size w w' := by
  by_cases h60 : n ≤ 60
  · exact writes_few hS hE hD A n c bs w hn h60 hx
  · exact writes_long hS A n c w h60

end Go.Proofs.Ytleikbpikmineaa.Script
