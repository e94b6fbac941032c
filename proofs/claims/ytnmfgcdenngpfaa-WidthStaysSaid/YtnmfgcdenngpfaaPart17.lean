/- The law of one box's widths. -/
import Derived.Test.YtnmfgcdenngpfaaPart9
import Derived.Test.YtnmfgcdenngpfaaPart10
import Derived.Test.YtnmfgcdenngpfaaPart5
namespace Go.Proofs.Ytnmfgcdenngpfaa.Width
open Go.RowKit Go.Sort Go.Proofs.Ytnmfgcdenngpfaa.Record Go.Proofs.Ytnmfgcdenngpfaa.Script Go.Proofs.Ytnmfgcdenngpfaa.Tree Go.Proofs.Ytnmfgcdenngpfaa.More

theorem atc0 {w : World} {g : Nat} {b : Bx} (h : At w g b) : w.cell? ⟨g, 0, none⟩ = some (.int .i64 b.d) := h.1
theorem atc1 {w : World} {g : Nat} {b : Bx} (h : At w g b) : w.cell? ⟨g, 1, none⟩ = some (.int .i64 b.k) := h.2.1
theorem atc2 {w : World} {g : Nat} {b : Bx} (h : At w g b) : w.cell? ⟨g, 2, none⟩ = some (.int .i64 b.s) := h.2.2.1
theorem atc3 {w : World} {g : Nat} {b : Bx} (h : At w g b) : w.cell? ⟨g, 3, none⟩ = some (.int .i64 b.c) := h.2.2.2.1
theorem atc4 {w : World} {g : Nat} {b : Bx} (h : At w g b) : w.cell? ⟨g, 4, none⟩ = some (.int .i64 b.w) := h.2.2.2.2.1
theorem atc5 {w : World} {g : Nat} {b : Bx} (h : At w g b) : w.cell? ⟨g, 5, none⟩ = some (.int .i64 b.h) := h.2.2.2.2.2.1
theorem atc6 {w : World} {g : Nat} {b : Bx} (h : At w g b) : w.cell? ⟨g, 6, none⟩ = some (.int .i64 b.m0) := h.2.2.2.2.2.2.1
theorem atc7 {w : World} {g : Nat} {b : Bx} (h : At w g b) : w.cell? ⟨g, 7, none⟩ = some (.int .i64 b.m1) := h.2.2.2.2.2.2.2.1
theorem atc8 {w : World} {g : Nat} {b : Bx} (h : At w g b) : w.cell? ⟨g, 8, none⟩ = some (.int .i64 b.m2) := h.2.2.2.2.2.2.2.2.1
theorem atc9 {w : World} {g : Nat} {b : Bx} (h : At w g b) : w.cell? ⟨g, 9, none⟩ = some (.int .i64 b.m3) := h.2.2.2.2.2.2.2.2.2.1
theorem atc10 {w : World} {g : Nat} {b : Bx} (h : At w g b) : w.cell? ⟨g, 10, none⟩ = some (.int .i64 b.e0) := h.2.2.2.2.2.2.2.2.2.2.1
theorem atc11 {w : World} {g : Nat} {b : Bx} (h : At w g b) : w.cell? ⟨g, 11, none⟩ = some (.int .i64 b.e1) := h.2.2.2.2.2.2.2.2.2.2.2.1
theorem atc12 {w : World} {g : Nat} {b : Bx} (h : At w g b) : w.cell? ⟨g, 12, none⟩ = some (.int .i64 b.e2) := h.2.2.2.2.2.2.2.2.2.2.2.2.1
theorem atc13 {w : World} {g : Nat} {b : Bx} (h : At w g b) : w.cell? ⟨g, 13, none⟩ = some (.int .i64 b.e3) := h.2.2.2.2.2.2.2.2.2.2.2.2.2

section
variable {T : World → Addr → List Bx → Prop}

set_option maxRecDepth 100000 in
set_option maxHeartbeats 2000000 in
theorem tells_wrong (hO : WidthOk T) (b : Bx) (x v : Int) (hv : pickN (brokenOf b) = v) (h : v ≠ 0) (w : World) :
    Calls Try.prog 3 #[b.v, .int .i64 x] w fun e w' => e = .returned (.bool true) ∧ Below w.heap.size w w' := by
  have HV := Lib.hid hv
  have hv0 : (v != 0) = true := by simp [h]
  clear hv h
  go_enter Try.func3, Try.ntmps3
  go_upto_region 1 with fail
  generalize hW : World.alloc w _ = W
  obtain ⟨hat, hb⟩ := box_in b hW
  have hsz : W.heap.size = w.heap.size + 1 := by rw [← hW]; simp
  have HA := Lib.hid hat
  have K := Lib.hid hb
  have hlt : w.heap.size < W.heap.size := by omega
  obtain ⟨c0, c1, c2, c3, c4, c5, c6, c7, c8, c9, c10, c11, c12, c13⟩ := hat
  clear hW hb hsz
  go_upto_region 2 with (first
    | (go_at_call 7; refine (dspeaks hO _).mono ?_; rintro e w1 ⟨rfl, k1⟩; obtain ⟨hc, -⟩ := bcell k1; have d0 := (hc _ 0 hlt).trans c0; have d1 := (hc _ 1 hlt).trans c1; have d2 := (hc _ 2 hlt).trans c2; have d3 := (hc _ 3 hlt).trans c3; have d4 := (hc _ 4 hlt).trans c4; have d5 := (hc _ 5 hlt).trans c5; have d6 := (hc _ 6 hlt).trans c6; have d7 := (hc _ 7 hlt).trans c7; have d8 := (hc _ 8 hlt).trans c8; have d9 := (hc _ 9 hlt).trans c9; have d10 := (hc _ 10 hlt).trans c10; have d11 := (hc _ 11 hlt).trans c11; have d12 := (hc _ 12 hlt).trans c12; have d13 := (hc _ 13 hlt).trans c13; have K1 := Lib.hid (thru K.out k1); have k1h := Lib.hid k1; clear hc k1 c0 c1 c2 c3 c4 c5 c6 c7 c8 c9 c10 c11 c12 c13)
    | (go_at_call 8; refine (ref_is b _ HV.out _).mono ?_; rintro e w2 ⟨rfl, k2⟩; have K2 := Lib.hid (thru K1.out k2); have k2h := Lib.hid (thru k1h.out k2); clear k2 d0 d1 d2 d3 d4 d5 d6 d7 d8 d9 d10 d11 d12 d13))
  go_wp2_with (first
    | (go_at_call 7; refine (dspeaks hO _).mono ?_; rintro e w9 ⟨rfl, k9⟩; have K9 := Lib.hid (thru K2.out k9); clear k9))
  go_ret
  exact ⟨rfl, K9.out⟩

set_option maxRecDepth 100000 in
set_option maxHeartbeats 2000000 in
theorem tells_great (hO : WidthOk T) (b : Bx) (x : Int) (hv : pickN (brokenOf b) = 0) (h : okX x = false) (w : World) :
    Calls Try.prog 3 #[b.v, .int .i64 x] w fun e w' => e = .returned (.bool true) ∧ Below w.heap.size w w' := by
  have HV := Lib.hid hv
  have HX := Lib.hid h
  clear hv h
  go_enter Try.func3, Try.ntmps3
  go_upto_region 1 with fail
  generalize hW : World.alloc w _ = W
  obtain ⟨hat, hb⟩ := box_in b hW
  have hsz : W.heap.size = w.heap.size + 1 := by rw [← hW]; simp
  have HA := Lib.hid hat
  have K := Lib.hid hb
  have hlt : w.heap.size < W.heap.size := by omega
  obtain ⟨c0, c1, c2, c3, c4, c5, c6, c7, c8, c9, c10, c11, c12, c13⟩ := hat
  clear hW hb hsz
  go_upto_region 2 with (first
    | (go_at_call 7; refine (dspeaks hO _).mono ?_; rintro e w1 ⟨rfl, k1⟩; obtain ⟨hc, -⟩ := bcell k1; have d0 := (hc _ 0 hlt).trans c0; have d1 := (hc _ 1 hlt).trans c1; have d2 := (hc _ 2 hlt).trans c2; have d3 := (hc _ 3 hlt).trans c3; have d4 := (hc _ 4 hlt).trans c4; have d5 := (hc _ 5 hlt).trans c5; have d6 := (hc _ 6 hlt).trans c6; have d7 := (hc _ 7 hlt).trans c7; have d8 := (hc _ 8 hlt).trans c8; have d9 := (hc _ 9 hlt).trans c9; have d10 := (hc _ 10 hlt).trans c10; have d11 := (hc _ 11 hlt).trans c11; have d12 := (hc _ 12 hlt).trans c12; have d13 := (hc _ 13 hlt).trans c13; have K1 := Lib.hid (thru K.out k1); have k1h := Lib.hid k1; clear hc k1 c0 c1 c2 c3 c4 c5 c6 c7 c8 c9 c10 c11 c12 c13)
    | (go_at_call 8; refine (ref_is b _ HV.out _).mono ?_; rintro e w2 ⟨rfl, k2⟩; have K2 := Lib.hid (thru K1.out k2); have k2h := Lib.hid (thru k1h.out k2); clear k2 d0 d1 d2 d3 d4 d5 d6 d7 d8 d9 d10 d11 d12 d13)
    | (go_at_call 9; refine (refsmall_is x _ HX.out _).mono ?_; rintro e w3 ⟨rfl, k3⟩; have K3 := Lib.hid (thru K2.out k3); have k3h := Lib.hid (thru k2h.out k3); clear k3))
  go_wp2_with (first
    | (go_at_call 7; refine (dspeaks hO _).mono ?_; rintro e w9 ⟨rfl, k9⟩; have K9 := Lib.hid (thru K3.out k9); clear k9))
  go_ret
  exact ⟨rfl, K9.out⟩

set_option maxRecDepth 100000 in
set_option maxHeartbeats 4000000 in
theorem tells_yes (hO : WidthOk T) (b : Bx) (x : Int) (hv : pickN (brokenOf b) = 0) (h : okX x = true) (w : World) :
    Calls Try.prog 3 #[b.v, .int .i64 x] w fun e w' => e = .returned (.bool true) ∧ Below w.heap.size w w' := by
  have HV := Lib.hid hv
  have HX := Lib.hid h
  have hsm := small_of hv
  have hx2 := okX_iff.1 h
  have HC := Lib.hid (fun w => hO.con b x w hv h)
  have HB := Lib.hid (fun w => hO.bor b x w hv h)
  have HM := Lib.hid (fun w => hO.mar b x w hv h)
  have HRC := Lib.hid (fun w => refcon_any b hsm x (by omega) w)
  have HRB := Lib.hid (fun w => refbor_any b hsm x (by omega) w)
  have HRM := Lib.hid (fun w => refmar_any b hsm x (by omega) w)
  obtain ⟨cz, hcz⟩ : ∃ cz, conZ b x = cz := ⟨_, rfl⟩
  obtain ⟨bz, hbz⟩ : ∃ bz, borZ b x = bz := ⟨_, rfl⟩
  obtain ⟨mz, hmz⟩ : ∃ mz, marZ b x = mz := ⟨_, rfl⟩
  rw [hcz] at HC HRC
  rw [hbz] at HB HRB
  rw [hmz] at HM HRM
  clear hv h hsm hx2 hcz hbz hmz
  go_enter Try.func3, Try.ntmps3
  go_upto_region 1 with fail
  generalize hW : World.alloc w _ = W
  obtain ⟨hat, hb⟩ := box_in b hW
  have hsz : W.heap.size = w.heap.size + 1 := by rw [← hW]; simp
  have HA := Lib.hid hat
  have K := Lib.hid hb
  have hlt : w.heap.size < W.heap.size := by omega
  obtain ⟨c0, c1, c2, c3, c4, c5, c6, c7, c8, c9, c10, c11, c12, c13⟩ := hat
  clear hW hb hsz
  go_upto_region 3 with (first
    | (go_at_call 7; refine (dspeaks hO _).mono ?_; rintro e w1 ⟨rfl, k1⟩; obtain ⟨hc, -⟩ := bcell k1; have d0 := (hc _ 0 hlt).trans c0; have d1 := (hc _ 1 hlt).trans c1; have d2 := (hc _ 2 hlt).trans c2; have d3 := (hc _ 3 hlt).trans c3; have d4 := (hc _ 4 hlt).trans c4; have d5 := (hc _ 5 hlt).trans c5; have d6 := (hc _ 6 hlt).trans c6; have d7 := (hc _ 7 hlt).trans c7; have d8 := (hc _ 8 hlt).trans c8; have d9 := (hc _ 9 hlt).trans c9; have d10 := (hc _ 10 hlt).trans c10; have d11 := (hc _ 11 hlt).trans c11; have d12 := (hc _ 12 hlt).trans c12; have d13 := (hc _ 13 hlt).trans c13; have K1 := Lib.hid (thru K.out k1); have k1h := Lib.hid k1; clear hc k1 c0 c1 c2 c3 c4 c5 c6 c7 c8 c9 c10 c11 c12 c13)
    | (go_at_call 8; refine (ref_is b _ HV.out _).mono ?_; rintro e w2 ⟨rfl, k2⟩; have K2 := Lib.hid (thru K1.out k2); have k2h := Lib.hid (thru k1h.out k2); clear k2 d0 d1 d2 d3 d4 d5 d6 d7 d8 d9 d10 d11 d12 d13)
    | (go_at_call 9; refine (refsmall_is x _ HX.out _).mono ?_; rintro e w3 ⟨rfl, k3⟩; have K3 := Lib.hid (thru K2.out k3); have k3h := Lib.hid (thru k2h.out k3); clear k3))
  have HA3 := Lib.hid (HA.out.below hlt k3h.out)
  obtain ⟨d0, d1, d2, d3, d4, d5, d6, d7, d8, d9, d10, d11, d12, d13⟩ := HA3.out
  have hlt3 := Nat.lt_of_lt_of_le hlt k3h.out.size
  go_upto_region 4 with (first
    | (go_at_call 10; refine (of_any b _).mono ?_; rintro e w4 ⟨rfl, k4⟩))
  generalize hW5 : World.alloc w4 _ = W5
  obtain ⟨hat5, hb5⟩ := box_in b hW5
  have hsz5 : W5.heap.size = w4.heap.size + 1 := by rw [← hW5]; simp
  have HA2 : Hid (∀ w', Below W5.heap.size W5 w' → At w' w.heap.size b) := Lib.hid (fun w' hw => (HA3.out.below hlt3 (thru k4 hb5)).below (by have := (thru k4 hb5).size; omega) hw)
  have HA5 : Hid (∀ w', Below W5.heap.size W5 w' → At w' w4.heap.size b) := Lib.hid (fun w' hw => hat5.below (by omega) hw)
  have K5 := Lib.hid (thru (thru K3.out k4) hb5)
  clear hW5 hb5 hsz5 hat5 k4 d0 d1 d2 d3 d4 d5 d6 d7 d8 d9 d10 d11 d12 d13 HA3
  refine Hold.wp_region_hold [.val b.v, .val (.int .i64 x), .val (.int .i64 cz), .val b.v, .val (.int .i64 x), .val (.int .i64 cz), .val (.bool true), .val (.bool true), .val b.v, .val (.int .i64 x), .val (.int .i64 bz), .val b.v, .val (.int .i64 x), .val (.int .i64 bz), .val (.bool true), .val (.bool true), .val (.bool true), .val b.v, .val (.int .i64 x), .val (.int .i64 mz), .val b.v, .val (.int .i64 x), .val (.int .i64 mz), .val (.bool true), .val (.bool true)] (by kernel_rfl) (by kernel_rfl) (by kernel_rfl) ?_ ?_
  · simp only [Hold.fill, Hold.Leave.value]
    refine ⟨?_, ?_, ?_, ?_, ?_, ?_, ?_, ?_, ?_, ?_, ?_, ?_, ?_, ?_, ?_, ?_, ?_, ?_, ?_, ?_, ?_, ?_, ?_, ?_, ?_, trivial⟩
    · intro gg w' hw hk
      have hq := HA5.out w' hw
      have c0 := atc0 hq
      have c1 := atc1 hq
      have c2 := atc2 hq
      have c3 := atc3 hq
      have c4 := atc4 hq
      have c5 := atc5 hq
      have c6 := atc6 hq
      have c7 := atc7 hq
      have c8 := atc8 hq
      have c9 := atc9 hq
      have c10 := atc10 hq
      have c11 := atc11 hq
      have c12 := atc12 hq
      have c13 := atc13 hq
      clear hq
      go_simp
      exact ⟨rfl, rfl⟩
    · intro gg w' hw hk
      go_simp
      exact ⟨rfl, rfl⟩
    · intro gg w' hw hk
      go_simp
      exact Hold.stays_call (HC.out w')
    · intro gg w' hw hk
      have hq := HA2.out w' hw
      have c0 := atc0 hq
      have c1 := atc1 hq
      have c2 := atc2 hq
      have c3 := atc3 hq
      have c4 := atc4 hq
      have c5 := atc5 hq
      have c6 := atc6 hq
      have c7 := atc7 hq
      have c8 := atc8 hq
      have c9 := atc9 hq
      have c10 := atc10 hq
      have c11 := atc11 hq
      have c12 := atc12 hq
      have c13 := atc13 hq
      clear hq
      go_simp
      exact ⟨rfl, rfl⟩
    · intro gg w' hw hk
      go_simp
      exact ⟨rfl, rfl⟩
    · intro gg w' hw hk
      go_simp
      exact Hold.stays_call (HRC.out w')
    · intro gg w' hw hk
      go_simp
      exact ⟨rfl, rfl⟩
    · intro gg w' hw hk
      go_simp
      exact ⟨rfl, rfl⟩
    · intro gg w' hw hk
      have hq := HA5.out w' hw
      have c0 := atc0 hq
      have c1 := atc1 hq
      have c2 := atc2 hq
      have c3 := atc3 hq
      have c4 := atc4 hq
      have c5 := atc5 hq
      have c6 := atc6 hq
      have c7 := atc7 hq
      have c8 := atc8 hq
      have c9 := atc9 hq
      have c10 := atc10 hq
      have c11 := atc11 hq
      have c12 := atc12 hq
      have c13 := atc13 hq
      clear hq
      go_simp
      exact ⟨rfl, rfl⟩
    · intro gg w' hw hk
      go_simp
      exact ⟨rfl, rfl⟩
    · intro gg w' hw hk
      go_simp
      exact Hold.stays_call (HB.out w')
    · intro gg w' hw hk
      have hq := HA2.out w' hw
      have c0 := atc0 hq
      have c1 := atc1 hq
      have c2 := atc2 hq
      have c3 := atc3 hq
      have c4 := atc4 hq
      have c5 := atc5 hq
      have c6 := atc6 hq
      have c7 := atc7 hq
      have c8 := atc8 hq
      have c9 := atc9 hq
      have c10 := atc10 hq
      have c11 := atc11 hq
      have c12 := atc12 hq
      have c13 := atc13 hq
      clear hq
      go_simp
      exact ⟨rfl, rfl⟩
    · intro gg w' hw hk
      go_simp
      exact ⟨rfl, rfl⟩
    · intro gg w' hw hk
      go_simp
      exact Hold.stays_call (HRB.out w')
    · intro gg w' hw hk
      go_simp
      exact ⟨rfl, rfl⟩
    · intro gg w' hw hk
      go_simp
      exact ⟨rfl, rfl⟩
    · intro gg w' hw hk
      go_simp
      exact ⟨rfl, rfl⟩
    · intro gg w' hw hk
      have hq := HA5.out w' hw
      have c0 := atc0 hq
      have c1 := atc1 hq
      have c2 := atc2 hq
      have c3 := atc3 hq
      have c4 := atc4 hq
      have c5 := atc5 hq
      have c6 := atc6 hq
      have c7 := atc7 hq
      have c8 := atc8 hq
      have c9 := atc9 hq
      have c10 := atc10 hq
      have c11 := atc11 hq
      have c12 := atc12 hq
      have c13 := atc13 hq
      clear hq
      go_simp
      exact ⟨rfl, rfl⟩
    · intro gg w' hw hk
      go_simp
      exact ⟨rfl, rfl⟩
    · intro gg w' hw hk
      go_simp
      exact Hold.stays_call (HM.out w')
    · intro gg w' hw hk
      have hq := HA2.out w' hw
      have c0 := atc0 hq
      have c1 := atc1 hq
      have c2 := atc2 hq
      have c3 := atc3 hq
      have c4 := atc4 hq
      have c5 := atc5 hq
      have c6 := atc6 hq
      have c7 := atc7 hq
      have c8 := atc8 hq
      have c9 := atc9 hq
      have c10 := atc10 hq
      have c11 := atc11 hq
      have c12 := atc12 hq
      have c13 := atc13 hq
      clear hq
      go_simp
      exact ⟨rfl, rfl⟩
    · intro gg w' hw hk
      go_simp
      exact ⟨rfl, rfl⟩
    · intro gg w' hw hk
      go_simp
      exact Hold.stays_call (HRM.out w')
    · intro gg w' hw hk
      go_simp
      exact ⟨rfl, rfl⟩
    · intro gg w' hw hk
      go_simp
      exact ⟨rfl, rfl⟩
  intro gg w2 k2 hgg
  clear hgg
  simp only [Hold.fill, Hold.Leave.value, List.length_cons, List.length_nil, List.drop_succ_cons, List.drop_zero]
  have K6 := Lib.hid (thru K5.out k2)
  clear k2
  go_wp2_with fail
  go_ret
  exact ⟨rfl, K6.out⟩

theorem tells_any (hO : WidthOk T) (b : Bx) (x : Int) (w : World) :
    Calls Try.prog 3 #[b.v, .int .i64 x] w fun e w' => e = .returned (.bool true) ∧ Below w.heap.size w w' := by
  by_cases h : pickN (brokenOf b) = 0
  · cases hx : okX x
    · exact tells_great hO b x h hx w
    · exact tells_yes hO b x h hx w
  · exact tells_wrong hO b x _ rfl h w
end

end Go.Proofs.Ytnmfgcdenngpfaa.Width
