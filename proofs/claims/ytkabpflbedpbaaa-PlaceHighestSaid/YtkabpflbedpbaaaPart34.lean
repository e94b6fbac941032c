/- The law: no place is higher than the one that a float gets. -/
import Derived.Test.YtkabpflbedpbaaaPart29
import Derived.Test.YtkabpflbedpbaaaPart32
namespace Go.Proofs.Ytkabpflbedpbaaa.Place
open Go.RowKit Go.Sort Go.Proofs.Ytkabpflbedpbaaa.Rect Go.Proofs.Ytkabpflbedpbaaa.More Go.Proofs.Ytkabpflbedpbaaa.Shelf Go.Proofs.Ytkabpflbedpbaaa.Space
set_option linter.unusedVariables false
set_option linter.unusedSimpArgs false

section
variable {S : World → (Nat → Prop) → Addr → List Fl → Prop}

set_option maxRecDepth 100000 in
set_option maxHeartbeats 1000000 in
theorem high_few (hO : SpaceOk S) (hP : PlaceOk S) (A : Option Addr) (n c : Nat) (fs : List Fl) (x : Wt) (w : World) (hn : n = fs.length) (hlen : n ≤ 9223372036854775807) (hx : Floats w w.heap.size A fs) (hv : (fs.all near49 && decide ((n : Int) ≤ 20)) = false) :
    Calls Try.prog 4 #[.slice A n c, x.v] w fun e w' => e = .returned (.bool true) ∧ Below w.heap.size w w' := by
  have HBe := Lib.hid (fun w1 (k : Below w.heap.size w w1) => lbegin_no A n c fs 20 w1 hn hlen (hx.thru k) hv)
  clear hn hx hv
  go_enter Try.func4, Try.ntmps4
  go_upto_region 1 with fail
  generalize hW1 : World.alloc w _ = W
  obtain ⟨b0, hb0⟩ : ∃ b0, w.heap.size = b0 := ⟨_, rfl⟩
  have KW := Lib.hid (show Below w.heap.size w W by rw [← hW1]; exact ba1 _ _)
  have AW := Lib.hid (show AtW W b0 x by rw [← hW1, ← hb0]; exact atW_boxed _ _ _)
  rw [hb0]
  clear hW1 hb0
  go_upto_region 3 with (first
    | (go_at_call 10; refine (HBe.out _ KW.out).mono ?_; rintro e w2 ⟨rfl, k2⟩; have K2 := Lib.hid (thru KW.out k2); clear k2)
    | (go_at_call 11; refine (qspeaks hO hP _).mono ?_; rintro e w3 ⟨rfl, k3⟩; have K3 := Lib.hid (thru K2.out k3); clear k3))
  go_wp2_with (first
    | (go_at_call 11; refine (qspeaks hO hP _).mono ?_; rintro e w9 ⟨rfl, k9⟩; have K9 := Lib.hid (thru K3.out k9); clear k9))
  go_ret
  exact ⟨rfl, K9.out⟩

set_option maxRecDepth 100000 in
set_option maxHeartbeats 1000000 in
theorem high_wrong (hO : SpaceOk S) (hP : PlaceOk S) (A : Option Addr) (n c : Nat) (fs : List Fl) (x : Wt) (w : World) (hn : n = fs.length) (hlen : n ≤ 20) (hx : Floats w w.heap.size A fs) (h49 : fs.all near49 = true) (hr : rightW x = false) :
    Calls Try.prog 4 #[.slice A n c, x.v] w fun e w' => e = .returned (.bool true) ∧ Below w.heap.size w w' := by
  have HBe := Lib.hid (fun w1 (k : Below w.heap.size w w1) => lbegin_any hO A n c fs 20 w1 hn (by omega) (by omega) (hx.thru k) h49)
  have HRi := Lib.hid (fun w => right_is x false hr w)
  clear hn hx h49
  go_enter Try.func4, Try.ntmps4
  go_upto_region 1 with fail
  generalize hW1 : World.alloc w _ = W
  obtain ⟨b0, hb0⟩ : ∃ b0, w.heap.size = b0 := ⟨_, rfl⟩
  have KW := Lib.hid (show Below w.heap.size w W by rw [← hW1]; exact ba1 _ _)
  have AW := Lib.hid (show AtW W b0 x by rw [← hW1, ← hb0]; exact atW_boxed _ _ _)
  rw [hb0]
  clear hW1 hb0
  go_upto_region 3 with (first
    | (go_at_call 10; refine (HBe.out _ KW.out).mono ?_; rintro e w2 ⟨⟨p, F, rfl, hL, hF⟩, k2⟩; have S2 := Lib.hid (⟨hL, thru KW.out k2, AW.out.below k2⟩ : S w2 F p fs ∧ Below w.heap.size w w2 ∧ AtW w2 b0 x); clear hL hF k2)
    | (go_at_call 11; refine (qspeaks hO hP _).mono ?_; rintro e w3 ⟨rfl, k3⟩; have S3 := Lib.hid (⟨thruS hO S2.out.1 k3, thru S2.out.2.1 k3, S2.out.2.2.below k3⟩ : S w3 F p fs ∧ Below w.heap.size w w3 ∧ AtW w3 b0 x); obtain ⟨c0, c1, c2, c3, c4, c5, c6⟩ := S3.out.2.2; clear k3)
    | (go_at_call 12; refine (HRi.out _).mono ?_; rintro e w4 ⟨rfl, k4⟩; have S4 := Lib.hid (⟨thruS hO S3.out.1 k4, thru S3.out.2.1 k4, S3.out.2.2.below k4⟩ : S w4 F p fs ∧ Below w.heap.size w w4 ∧ AtW w4 b0 x); clear k4))
  go_wp2_with (first
    | (go_at_call 11; refine (qspeaks hO hP _).mono ?_; rintro e w9 ⟨rfl, k9⟩; have K9 := Lib.hid (thru S4.out.2.1 k9); clear k9))
  go_ret
  exact ⟨rfl, K9.out⟩

set_option maxRecDepth 100000 in
set_option maxHeartbeats 1000000 in
theorem high_yes (hO : SpaceOk S) (hP : PlaceOk S) (A : Option Addr) (n c : Nat) (fs : List Fl) (x : Wt) (w : World) (hn : n = fs.length) (hlen : n ≤ 20) (hx : Floats w w.heap.size A fs) (h49 : fs.all near49 = true) (hr : RightW x) :
    Calls Try.prog 4 #[.slice A n c, x.v] w fun e w' => e = .returned (.bool true) ∧ Below w.heap.size w w' := by
  have HBe := Lib.hid (fun w1 (k : Below w.heap.size w w1) => lbegin_any hO A n c fs 20 w1 hn (by omega) (by omega) (hx.thru k) h49)
  have HRi := Lib.hid (fun w => right_is x true (rightW_iff.2 hr) w)
  have HFi := Lib.hid (fun w1 F p (h : S w1 F p fs) => hP.find w1 F p fs x h h49 hr)
  have HSt := Lib.hid (fun w1 F p (h : S w1 F p fs) => hP.start w1 F p fs x h h49 hr)
  have hf := find_is h49 hr
  have hfy := findY_49 h49 hr
  have hst := startQ_49 h49 hr
  have hfx := find_49 h49 hr
  have hax : atQ fs x (findY fs x) = findX fs x := by unfold atQ; rw [if_pos hf.2.1, ← findX_is h49 hr]
  have HRa := Lib.hid (fun w1 z (k : Below w.heap.size w w1) (hz : -1125899906842624 ≤ z ∧ z ≤ 1125899906842624) => refat_any A n c fs x z w1 hn (by omega) (hx.thru k) h49 hr hz)
  have HR0 := Lib.hid (fun w1 (k : Below w.heap.size w w1) => HRa.out w1 (findY fs x) k ⟨by omega, by omega⟩)
  rw [hax, hf.2.1] at HR0
  obtain ⟨f1, f2, t1, t2, wd1, wd2, ht1, ht2, y1, y2, sd, cl, ft⟩ := hr
  unfold placed at HFi
  have HNo := Lib.hid (⟨hf.1, hf.2.2, hst, hfy⟩ : startQ fs x ≤ findY fs x ∧ (∀ z, startQ fs x ≤ z → z < findY fs x → okQ fs x z = false) ∧ (-562949953421312 ≤ startQ fs x ∧ startQ fs x ≤ 562949953421312) ∧ (-562949953421312 ≤ findY fs x ∧ findY fs x ≤ 562949953421312))
  have hw1 : IntKind.i64.wrap (findX fs x + x.wd - findX fs x) = x.wd := by rw [IntWalk.i64_in _ (by omega)]; omega
  have hw2 : IntKind.i64.wrap (findY fs x + x.ht - findY fs x) = x.ht := by rw [IntWalk.i64_in _ (by omega)]; omega
  generalize findX fs x + x.wd = fr at *
  generalize findY fs x + x.ht = fb at *
  generalize findX fs x = fx at *
  generalize findY fs x = fy at *
  generalize startQ fs x = st at *
  have hlt0 : ¬ fy < st := by have := HNo.out.1; omega
  have hw3 : IntKind.i64.wrap (st + 200) = st + 200 := by have := HNo.out.2.2.1; exact IntWalk.i64_in _ (by omega)
  have HWW := Lib.hid (⟨hw1, hw2, hlt0, hw3⟩ : IntKind.i64.wrap (fr - fx) = x.wd ∧ IntKind.i64.wrap (fb - fy) = x.ht ∧ ¬ fy < st ∧ IntKind.i64.wrap (st + 200) = st + 200)
  clear hn hx h49 hf hfy hst hfx hax f1 f2 t1 t2 wd1 wd2 ht1 ht2 y1 y2 sd cl ft hw1 hw2 hw3 hlt0
  go_enter Try.func4, Try.ntmps4
  go_upto_region 1 with fail
  generalize hW1 : World.alloc w _ = W
  obtain ⟨b0, hb0⟩ : ∃ b0, w.heap.size = b0 := ⟨_, rfl⟩
  have KW := Lib.hid (show Below w.heap.size w W by rw [← hW1]; exact ba1 _ _)
  have AW := Lib.hid (show AtW W b0 x by rw [← hW1, ← hb0]; exact atW_boxed _ _ _)
  rw [hb0]
  clear hW1 hb0
  go_upto_region 4 with (first
    | (go_at_call 10; refine (HBe.out _ KW.out).mono ?_; rintro e w2 ⟨⟨p, F, rfl, hL, hF⟩, k2⟩; have S2 := Lib.hid (⟨hL, thru KW.out k2, AW.out.below k2⟩ : S w2 F p fs ∧ Below w.heap.size w w2 ∧ AtW w2 b0 x); clear hL hF k2)
    | (go_at_call 11; refine (qspeaks hO hP _).mono ?_; rintro e w3 ⟨rfl, k3⟩; have S3 := Lib.hid (⟨thruS hO S2.out.1 k3, thru S2.out.2.1 k3, S2.out.2.2.below k3⟩ : S w3 F p fs ∧ Below w.heap.size w w3 ∧ AtW w3 b0 x); obtain ⟨c0, c1, c2, c3, c4, c5, c6⟩ := S3.out.2.2; clear k3)
    | (go_at_call 12; refine (HRi.out _).mono ?_; rintro e w4 ⟨rfl, k4⟩; have S4 := Lib.hid (⟨thruS hO S3.out.1 k4, thru S3.out.2.1 k4, S3.out.2.2.below k4⟩ : S w4 F p fs ∧ Below w.heap.size w w4 ∧ AtW w4 b0 x); clear k4))
  clear c0 c1 c2 c3 c4 c5 c6
  obtain ⟨c0, c1, c2, c3, c4, c5, c6⟩ := S4.out.2.2
  go_upto_region 5 with (first
    | (go_at_call 14; refine (wantOf_any x _).mono ?_; rintro e w5 ⟨rfl, k5⟩; have S5 := Lib.hid (⟨thruS hO S4.out.1 k5, thru S4.out.2.1 k5, S4.out.2.2.below k5⟩ : S w5 F p fs ∧ Below w.heap.size w w5 ∧ AtW w5 b0 x); clear k5)
    | (go_at_call 18; refine (HFi.out _ _ _ S5.out.1).mono ?_; rintro e w6 ⟨rfl, k6⟩; have S6 := Lib.hid (⟨thruS hO S5.out.1 k6, thru S5.out.2.1 k6, S5.out.2.2.below k6⟩ : S w6 F p fs ∧ Below w.heap.size w w6 ∧ AtW w6 b0 x); clear k6))
  clear c0 c1 c2 c3 c4 c5 c6
  generalize hW7 : World.alloc w6 _ = W7
  obtain ⟨b1, hb1⟩ : ∃ b1, w6.heap.size = b1 := ⟨_, rfl⟩
  have k7 : Below w6.heap.size w6 W7 := by rw [← hW7]; exact ba1 _ _
  have r7 : R4 W7 b1 fx fy fr fb := by rw [← hW7, ← hb1]; exact R4.of_block (heap_alloc_new w6 _)
  have S7 := Lib.hid (⟨thruS hO S6.out.1 k7, thru S6.out.2.1 k7, S6.out.2.2.below k7, r7⟩ : S W7 F p fs ∧ Below w.heap.size w W7 ∧ AtW W7 b0 x ∧ R4 W7 b1 fx fy fr fb)
  rw [hb1]
  clear hW7 hb1 k7 r7
  obtain ⟨c0, c1, c2, c3, c4, c5, c6⟩ := S7.out.2.2.1
  go_upto_region 6 with (first
    | (go_at_call 14; refine (wantOf_any x _).mono ?_; rintro e w8 ⟨rfl, k8⟩; have S8 := Lib.hid (⟨thruS hO S7.out.1 k8, thru S7.out.2.1 k8, S7.out.2.2.1.below k8, S7.out.2.2.2.below k8⟩ : S w8 F p fs ∧ Below w.heap.size w w8 ∧ AtW w8 b0 x ∧ R4 w8 b1 fx fy fr fb); clear k8)
    | (go_at_call 16; refine (HSt.out _ _ _ S8.out.1).mono ?_; rintro e w9 ⟨rfl, k9⟩; have S9 := Lib.hid (⟨thru S8.out.2.1 k9, S8.out.2.2.1.below k9, S8.out.2.2.2.below k9⟩ : Below w.heap.size w w9 ∧ AtW w9 b0 x ∧ R4 w9 b1 fx fy fr fb); clear k9))
  clear c0 c1 c2 c3 c4 c5 c6 S8 S7 S6 S5 S4
  obtain ⟨c0, c1, c2, c3, c4, c5, c6⟩ := S9.out.2.1
  obtain ⟨r0, r1, r2, r3⟩ := S9.out.2.2
  obtain ⟨hw1, hw2, hlt0, hw3⟩ := HWW.out
  go_upto_region 9 with (first
    | (go_at_call 15; refine (HR0.out _ S9.out.1).mono ?_; rintro e wa ⟨rfl, ka⟩; have Sa := Lib.hid (⟨thru S9.out.1 ka, S9.out.2.1.below ka, S9.out.2.2.below ka⟩ : Below w.heap.size w wa ∧ AtW wa b0 x ∧ R4 wa b1 fx fy fr fb); clear ka))
  clear c0 c1 c2 c3 c4 c5 c6 r0 r1 r2 r3 hw1 hw2 hlt0 S9
  obtain ⟨r0, r1, r2, r3⟩ := Sa.out.2.2
  go_wp2_with fail
  clear r0 r1 r2 r3
  go_loopw [10] (fun i wr => ∃ z : Int, i = .int .i64 z ∧ Hid (st ≤ z ∧ z ≤ fy ∧ Below wa.heap.size wa wr)) (fun i _ => (fy - intOf i).toNat)
  case atStart => exact ⟨st, rfl, Lib.hid ⟨Int.le_refl _, HNo.out.1, Below.refl _ _⟩⟩
  case round =>
    obtain ⟨z, rfl, H⟩ := hrel
    obtain ⟨r0, r1, r2, r3⟩ := Sa.out.2.2.below H.out.2.2
    obtain ⟨c0, c1, c2, c3, c4, c5, c6⟩ := Sa.out.2.1.below H.out.2.2
    by_cases hz1 : z < fy
    · by_cases hz2 : z < st + 200
      · have hno := HNo.out.2.1 z H.out.1 hz1
        have hb := HNo.out
        have hzr : -1125899906842624 ≤ z ∧ z ≤ 1125899906842624 := by have := H.out.1; omega
        have hww : IntKind.i64.wrap (z + 1) = z + 1 := IntWalk.i64_in _ (by omega)
        have hra := HRa.out wr z (thru Sa.out.1 H.out.2.2) hzr
        rw [hno] at hra
        have HA := Lib.hid hra
        have HZ := Lib.hid hz1
        clear hno hb hzr hra
        by_cases hm : fy < st + 200
        · go_wp2_with (first
            | (go_at_call 15; refine HA.out.mono ?_; rintro e wb ⟨rfl, kb⟩; have Kb := Lib.hid (thru H.out.2.2 kb); clear kb))
          go_roundw
          case rel => exact ⟨z + 1, by go_num, Lib.hid ⟨by have := H.out.1; omega, by have := HZ.out; omega, Kb.out⟩⟩
          case measure => have := HZ.out; simp [intOf]; omega
        · go_wp2_with (first
            | (go_at_call 15; refine HA.out.mono ?_; rintro e wb ⟨rfl, kb⟩; have Kb := Lib.hid (thru H.out.2.2 kb); clear kb))
          go_roundw
          case rel => exact ⟨z + 1, by go_num, Lib.hid ⟨by have := H.out.1; omega, by have := HZ.out; omega, Kb.out⟩⟩
          case measure => have := HZ.out; simp [intOf]; omega
      · by_cases hm : fy < st + 200
        · exfalso; omega
        · go_wp2_with fail
          all_goals
            go_ret
            exact ⟨rfl, thru Sa.out.1 H.out.2.2⟩
    · by_cases hm : fy < st + 200
      · go_wp2_with fail
        all_goals
          go_ret
          exact ⟨rfl, thru Sa.out.1 H.out.2.2⟩
      · have hz2 : ¬ z < st + 200 := by omega
        go_wp2_with fail
        all_goals
          go_ret
          exact ⟨rfl, thru Sa.out.1 H.out.2.2⟩

theorem high_any (hO : SpaceOk S) (hP : PlaceOk S) (A : Option Addr) (n c : Nat) (fs : List Fl) (x : Wt) (w : World) (hn : n = fs.length) (hm : n ≤ 9223372036854775807) (hx : Floats w w.heap.size A fs) :
    Calls Try.prog 4 #[.slice A n c, x.v] w fun e w' => e = .returned (.bool true) ∧ Below w.heap.size w w' := by
  by_cases hh : (fs.all near49 && decide ((n : Int) ≤ 20)) = true
  · simp only [Bool.and_eq_true, decide_eq_true_eq] at hh
    by_cases h2 : rightW x = true
    · have hr := rightW_iff.1 h2
      exact high_yes hO hP A n c fs x w hn (by omega) hx hh.1 hr
    · exact high_wrong hO hP A n c fs x w hn (by omega) hx hh.1 (by simpa using h2)
  · exact high_few hO hP A n c fs x w hn hm hx (by simpa using hh)

end

end Go.Proofs.Ytkabpflbedpbaaa.Place
