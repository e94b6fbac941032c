/- The law: no place is higher than the one that a box gets. -/
import Derived.Test.YtmpfjkhboenfcaaPart25
import Derived.Test.YtmpfjkhboenfcaaPart29
namespace Go.Proofs.Ytmpfjkhboenfcaa.Avoid
open Go.RowKit Go.Sort Go.Proofs.Ytmpfjkhboenfcaa.Rect Go.Proofs.Ytmpfjkhboenfcaa.More Go.Proofs.Ytmpfjkhboenfcaa.Shelf Go.Proofs.Ytmpfjkhboenfcaa.Space Go.Proofs.Ytmpfjkhboenfcaa.Place
set_option linter.unusedVariables false
set_option linter.unusedSimpArgs false

section
variable {S : World → (Nat → Prop) → Addr → List Fl → Prop}

set_option maxRecDepth 100000 in
set_option maxHeartbeats 1000000 in
theorem vhigh_few (hO : SpaceOk S) (hP : AvoidOk S) (A : Option Addr) (n c : Nat) (fs : List Fl) (x : Vt) (w : World) (hn : n = fs.length) (hlen : n ≤ 9223372036854775807) (hx : Floats w w.heap.size A fs) (hv : (fs.all near49 && decide ((n : Int) ≤ 20)) = false) :
    Calls Try.prog 5 #[.slice A n c, x.v] w fun e w' => e = .returned (.bool true) ∧ Below w.heap.size w w' := by
  have HBe := Lib.hid (fun w1 (k : Below w.heap.size w w1) => vbegin_no A n c fs 20 w1 hn hlen (hx.thru k) hv)
  clear hn hx hv
  go_enter Try.func5, Try.ntmps5
  go_upto_region 1 with fail
  generalize hW1 : World.alloc w _ = W
  obtain ⟨b0, hb0⟩ : ∃ b0, w.heap.size = b0 := ⟨_, rfl⟩
  have KW := Lib.hid (show Below w.heap.size w W by rw [← hW1]; exact ba1 _ _)
  have AW := Lib.hid (show AtV W b0 x by rw [← hW1, ← hb0]; exact atV_boxed _ _ _)
  rw [hb0]
  clear hW1 hb0
  go_upto_region 3 with (first
    | (go_at_call 9; refine (HBe.out _ KW.out).mono ?_; rintro e w2 ⟨rfl, k2⟩; have K2 := Lib.hid (thru KW.out k2); clear k2)
    | (go_at_call 10; refine (vspeaks hO hP _).mono ?_; rintro e w3 ⟨rfl, k3⟩; have K3 := Lib.hid (thru K2.out k3); clear k3))
  go_wp2_with (first
    | (go_at_call 10; refine (vspeaks hO hP _).mono ?_; rintro e w9 ⟨rfl, k9⟩; have K9 := Lib.hid (thru K3.out k9); clear k9))
  go_ret
  exact ⟨rfl, K9.out⟩

set_option maxRecDepth 100000 in
set_option maxHeartbeats 1000000 in
theorem vhigh_wrong (hO : SpaceOk S) (hP : AvoidOk S) (A : Option Addr) (n c : Nat) (fs : List Fl) (x : Vt) (w : World) (hn : n = fs.length) (hlen : n ≤ 20) (hx : Floats w w.heap.size A fs) (h49 : fs.all near49 = true) (hr : rightV x = false) :
    Calls Try.prog 5 #[.slice A n c, x.v] w fun e w' => e = .returned (.bool true) ∧ Below w.heap.size w w' := by
  have HBe := Lib.hid (fun w1 (k : Below w.heap.size w w1) => vbegin_any hO A n c fs 20 w1 hn (by omega) (by omega) (hx.thru k) h49)
  have HRi := Lib.hid (fun w => vright_is x false hr w)
  clear hn hx h49
  go_enter Try.func5, Try.ntmps5
  go_upto_region 1 with fail
  generalize hW1 : World.alloc w _ = W
  obtain ⟨b0, hb0⟩ : ∃ b0, w.heap.size = b0 := ⟨_, rfl⟩
  have KW := Lib.hid (show Below w.heap.size w W by rw [← hW1]; exact ba1 _ _)
  have AW := Lib.hid (show AtV W b0 x by rw [← hW1, ← hb0]; exact atV_boxed _ _ _)
  rw [hb0]
  clear hW1 hb0
  go_upto_region 3 with (first
    | (go_at_call 9; refine (HBe.out _ KW.out).mono ?_; rintro e w2 ⟨⟨p, F, rfl, hL, hF⟩, k2⟩; have S2 := Lib.hid (⟨hL, thru KW.out k2, AW.out.below k2⟩ : S w2 F p fs ∧ Below w.heap.size w w2 ∧ AtV w2 b0 x); clear hL hF k2)
    | (go_at_call 10; refine (vspeaks hO hP _).mono ?_; rintro e w3 ⟨rfl, k3⟩; have S3 := Lib.hid (⟨thruS hO S2.out.1 k3, thru S2.out.2.1 k3, S2.out.2.2.below k3⟩ : S w3 F p fs ∧ Below w.heap.size w w3 ∧ AtV w3 b0 x); obtain ⟨c0, c1, c2, c3, c4⟩ := S3.out.2.2; clear k3)
    | (go_at_call 11; refine (HRi.out _).mono ?_; rintro e w4 ⟨rfl, k4⟩; have S4 := Lib.hid (⟨thruS hO S3.out.1 k4, thru S3.out.2.1 k4, S3.out.2.2.below k4⟩ : S w4 F p fs ∧ Below w.heap.size w w4 ∧ AtV w4 b0 x); clear k4))
  go_wp2_with (first
    | (go_at_call 10; refine (vspeaks hO hP _).mono ?_; rintro e w9 ⟨rfl, k9⟩; have K9 := Lib.hid (thru S4.out.2.1 k9); clear k9))
  go_ret
  exact ⟨rfl, K9.out⟩

set_option maxRecDepth 100000 in
set_option maxHeartbeats 1000000 in
theorem vhigh_yes (hO : SpaceOk S) (hP : AvoidOk S) (A : Option Addr) (n c : Nat) (fs : List Fl) (x : Vt) (w : World) (hn : n = fs.length) (hlen : n ≤ 20) (hx : Floats w w.heap.size A fs) (h49 : fs.all near49 = true) (hr : RightV x) :
    Calls Try.prog 5 #[.slice A n c, x.v] w fun e w' => e = .returned (.bool true) ∧ Below w.heap.size w w' := by
  have HBe := Lib.hid (fun w1 (k : Below w.heap.size w w1) => vbegin_any hO A n c fs 20 w1 hn (by omega) (by omega) (hx.thru k) h49)
  have HRi := Lib.hid (fun w => vright_is x true (rightV_iff.2 hr) w)
  have HFi := Lib.hid (fun w1 F p (h : S w1 F p fs) => hP.find w1 F p fs x h h49 hr)
  have hf := findV_is h49 hr
  have hfy := findVY_49 h49 hr
  have hax := atV_found h49 hr
  have HRa := Lib.hid (fun w1 z (k : Below w.heap.size w w1) (hz : -1125899906842624 ≤ z ∧ z ≤ 1125899906842624) => vrefat_any A n c fs x z w1 hn (by omega) (hx.thru k) h49 hr hz)
  have HR0 := Lib.hid (fun w1 (k : Below w.heap.size w w1) => HRa.out w1 (findVY fs x) k ⟨by omega, by omega⟩)
  rw [hax, hf.2.1] at HR0
  have hy1 := hr.y1
  have hy2 := hr.y2
  unfold boxV at HFi
  have HNo := Lib.hid (⟨hf.1, hf.2.2, ⟨hy1, hy2⟩, hfy⟩ : x.y ≤ findVY fs x ∧ (∀ z, x.y ≤ z → z < findVY fs x → okV fs x z = false) ∧ (-281474976710656 ≤ x.y ∧ x.y ≤ 281474976710656) ∧ (-562949953421312 ≤ findVY fs x ∧ findVY fs x ≤ 562949953421312))
  have hw3 : IntKind.i64.wrap (x.y + 200) = x.y + 200 := IntWalk.i64_in _ (by omega)
  have HWW := Lib.hid hw3
  generalize findVX fs x + x.wd = fr at *
  generalize findVY fs x + x.ht = fb at *
  generalize findVX fs x = fx at *
  generalize findVY fs x = fy at *
  clear hn hx h49 hf hfy hax hy1 hy2 hw3
  go_enter Try.func5, Try.ntmps5
  go_upto_region 1 with fail
  generalize hW1 : World.alloc w _ = W
  obtain ⟨b0, hb0⟩ : ∃ b0, w.heap.size = b0 := ⟨_, rfl⟩
  have KW := Lib.hid (show Below w.heap.size w W by rw [← hW1]; exact ba1 _ _)
  have AW := Lib.hid (show AtV W b0 x by rw [← hW1, ← hb0]; exact atV_boxed _ _ _)
  rw [hb0]
  clear hW1 hb0
  go_upto_region 4 with (first
    | (go_at_call 9; refine (HBe.out _ KW.out).mono ?_; rintro e w2 ⟨⟨p, F, rfl, hL, hF⟩, k2⟩; have S2 := Lib.hid (⟨hL, thru KW.out k2, AW.out.below k2⟩ : S w2 F p fs ∧ Below w.heap.size w w2 ∧ AtV w2 b0 x); clear hL hF k2)
    | (go_at_call 10; refine (vspeaks hO hP _).mono ?_; rintro e w3 ⟨rfl, k3⟩; have S3 := Lib.hid (⟨thruS hO S2.out.1 k3, thru S2.out.2.1 k3, S2.out.2.2.below k3⟩ : S w3 F p fs ∧ Below w.heap.size w w3 ∧ AtV w3 b0 x); obtain ⟨c0, c1, c2, c3, c4⟩ := S3.out.2.2; clear k3)
    | (go_at_call 11; refine (HRi.out _).mono ?_; rintro e w4 ⟨rfl, k4⟩; have S4 := Lib.hid (⟨thruS hO S3.out.1 k4, thru S3.out.2.1 k4, S3.out.2.2.below k4⟩ : S w4 F p fs ∧ Below w.heap.size w w4 ∧ AtV w4 b0 x); clear k4))
  clear c0 c1 c2 c3 c4
  obtain ⟨c0, c1, c2, c3, c4⟩ := S4.out.2.2
  go_upto_region 5 with (first
    | (go_at_call 13; refine (vwantOf_any x _).mono ?_; rintro e w5 ⟨rfl, k5⟩; have S5 := Lib.hid (⟨thruS hO S4.out.1 k5, thru S4.out.2.1 k5, S4.out.2.2.below k5⟩ : S w5 F p fs ∧ Below w.heap.size w w5 ∧ AtV w5 b0 x); clear k5)
    | (go_at_call 15; refine (HFi.out _ _ _ S5.out.1).mono ?_; rintro e w6 ⟨rfl, k6⟩; have S6 := Lib.hid (⟨thru S5.out.2.1 k6, S5.out.2.2.below k6⟩ : Below w.heap.size w w6 ∧ AtV w6 b0 x); clear k6))
  clear c0 c1 c2 c3 c4
  generalize hW7 : World.alloc w6 _ = W7
  obtain ⟨b1, hb1⟩ : ∃ b1, w6.heap.size = b1 := ⟨_, rfl⟩
  have k7 : Below w6.heap.size w6 W7 := by rw [← hW7]; exact ba1 _ _
  have r7 : R4 W7 b1 fx fy fr fb := by rw [← hW7, ← hb1]; exact R4.of_block (heap_alloc_new w6 _)
  have S7 := Lib.hid (⟨thru S6.out.1 k7, S6.out.2.below k7, r7⟩ : Below w.heap.size w W7 ∧ AtV W7 b0 x ∧ R4 W7 b1 fx fy fr fb)
  rw [hb1]
  clear hW7 hb1 k7 r7 S6 S5 S4
  obtain ⟨c0, c1, c2, c3, c4⟩ := S7.out.2.1
  obtain ⟨r0, r1, r2, r3⟩ := S7.out.2.2
  go_upto_region 8 with (first
    | (go_at_call 14; refine (HR0.out _ S7.out.1).mono ?_; rintro e wa ⟨rfl, ka⟩; have Sa := Lib.hid (⟨thru S7.out.1 ka, S7.out.2.1.below ka, S7.out.2.2.below ka⟩ : Below w.heap.size w wa ∧ AtV wa b0 x ∧ R4 wa b1 fx fy fr fb); clear c0 c1 c2 c3 c4 r0 r1 r2 r3; obtain ⟨c0, c1, c2, c3, c4⟩ := Sa.out.2.1; obtain ⟨r0, r1, r2, r3⟩ := Sa.out.2.2; clear ka))
  go_wp2_with fail
  clear c0 c1 c2 c3 c4 r0 r1 r2 r3
  go_loopw [9] (fun i wr => ∃ z : Int, i = .int .i64 z ∧ Hid (x.y ≤ z ∧ z ≤ fy ∧ Below wa.heap.size wa wr)) (fun i _ => (fy - intOf i).toNat)
  case atStart => exact ⟨x.y, rfl, Lib.hid ⟨Int.le_refl _, HNo.out.1, Below.refl _ _⟩⟩
  case round =>
    obtain ⟨z, rfl, H⟩ := hrel
    obtain ⟨r0, r1, r2, r3⟩ := Sa.out.2.2.below H.out.2.2
    obtain ⟨c0, c1, c2, c3, c4⟩ := Sa.out.2.1.below H.out.2.2
    have hw3 := HWW.out
    by_cases hz1 : z < fy
    · by_cases hz2 : z < x.y + 200
      · have hno := HNo.out.2.1 z H.out.1 hz1
        have hb := HNo.out
        have hzr : -1125899906842624 ≤ z ∧ z ≤ 1125899906842624 := by have := H.out.1; omega
        have hww : IntKind.i64.wrap (z + 1) = z + 1 := IntWalk.i64_in _ (by omega)
        have hra := HRa.out wr z (thru Sa.out.1 H.out.2.2) hzr
        rw [hno] at hra
        have HA := Lib.hid hra
        have HZ := Lib.hid hz1
        clear hno hb hzr hra
        by_cases hm : fy < x.y + 200
        · go_wp2_with (first
            | (go_at_call 14; refine HA.out.mono ?_; rintro e wb ⟨rfl, kb⟩; have Kb := Lib.hid (thru H.out.2.2 kb); clear kb))
          go_roundw
          case rel => exact ⟨z + 1, by go_num, Lib.hid ⟨by have := H.out.1; omega, by have := HZ.out; omega, Kb.out⟩⟩
          case measure => have := HZ.out; simp [intOf]; omega
        · go_wp2_with (first
            | (go_at_call 14; refine HA.out.mono ?_; rintro e wb ⟨rfl, kb⟩; have Kb := Lib.hid (thru H.out.2.2 kb); clear kb))
          go_roundw
          case rel => exact ⟨z + 1, by go_num, Lib.hid ⟨by have := H.out.1; omega, by have := HZ.out; omega, Kb.out⟩⟩
          case measure => have := HZ.out; simp [intOf]; omega
      · by_cases hm : fy < x.y + 200
        · exfalso; omega
        · go_wp2_with fail
          all_goals
            go_ret
            exact ⟨rfl, thru Sa.out.1 H.out.2.2⟩
    · by_cases hm : fy < x.y + 200
      · go_wp2_with fail
        all_goals
          go_ret
          exact ⟨rfl, thru Sa.out.1 H.out.2.2⟩
      · have hz2 : ¬ z < x.y + 200 := by omega
        go_wp2_with fail
        all_goals
          go_ret
          exact ⟨rfl, thru Sa.out.1 H.out.2.2⟩

theorem vhigh_any (hO : SpaceOk S) (hP : AvoidOk S) (A : Option Addr) (n c : Nat) (fs : List Fl) (x : Vt) (w : World) (hn : n = fs.length) (hm : n ≤ 9223372036854775807) (hx : Floats w w.heap.size A fs) :
    Calls Try.prog 5 #[.slice A n c, x.v] w fun e w' => e = .returned (.bool true) ∧ Below w.heap.size w w' := by
  by_cases hh : (fs.all near49 && decide ((n : Int) ≤ 20)) = true
  · simp only [Bool.and_eq_true, decide_eq_true_eq] at hh
    by_cases h2 : rightV x = true
    · have hr := rightV_iff.1 h2
      exact vhigh_yes hO hP A n c fs x w hn (by omega) hx hh.1 hr
    · exact vhigh_wrong hO hP A n c fs x w hn (by omega) hx hh.1 (by simpa using h2)
  · exact vhigh_few hO hP A n c fs x w hn hm hx (by simpa using hh)

end

end Go.Proofs.Ytmpfjkhboenfcaa.Avoid
