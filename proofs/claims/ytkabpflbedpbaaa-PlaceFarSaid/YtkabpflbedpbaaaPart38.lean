/- The law: a float goes as far to its side as it may. -/
import Derived.Test.YtkabpflbedpbaaaPart29
namespace Go.Proofs.Ytkabpflbedpbaaa.Place
open Go.RowKit Go.Sort Go.Proofs.Ytkabpflbedpbaaa.Rect Go.Proofs.Ytkabpflbedpbaaa.More Go.Proofs.Ytkabpflbedpbaaa.Shelf Go.Proofs.Ytkabpflbedpbaaa.Space
set_option linter.unusedVariables false
set_option linter.unusedSimpArgs false

section
variable {S : World → (Nat → Prop) → Addr → List Fl → Prop}

/-- What its place comes to, at the left. -/
theorem far_left {fs : List Fl} {x : Wt} (h49 : fs.all near49 = true) (hr : RightW x) (hs : x.s = 1) {L R fx : Int} (hL : bandL fs (findY fs x) (findY fs x + highZ x.ht) = L) (hR : bandR fs (findY fs x) (findY fs x + highZ x.ht) = R) (hx : findX fs x = fx) :
    (x.f < L ∧ fx = L ∧ x.t < R ∧ fx + x.wd ≤ x.t) ∨ (x.f < L ∧ fx = L ∧ R ≤ x.t ∧ fx + x.wd ≤ R) ∨ (L ≤ x.f ∧ fx = x.f ∧ x.t < R ∧ fx + x.wd ≤ x.t) ∨ (L ≤ x.f ∧ fx = x.f ∧ R ≤ x.t ∧ fx + x.wd ≤ R) ∨
    (L ≤ x.f ∧ fx = x.f ∧ x.t < R ∧ x.t < fx + x.wd ∧ x.t - x.f < x.wd) ∨ (L ≤ x.f ∧ fx = x.f ∧ R ≤ x.t ∧ R < fx + x.wd ∧ x.t - x.f < x.wd) := by
  have hok := (find_is h49 hr).2.1
  rw [findX_is h49 hr] at hx
  unfold okQ at hok
  unfold edgeQ edgeN at hx
  rw [hL, hR] at hok hx
  rw [okN_iff] at hok
  rw [if_pos hs] at hx
  have hs2 : ¬ x.s ≠ 1 := fun h => h hs
  by_cases c1 : x.f < L
  · rw [show max x.f L = L by omega] at hok hx
    by_cases c2 : x.t < R
    · rw [show min x.t R = x.t by omega] at hok
      exact .inl ⟨c1, hx.symm, c2, by rcases hok with h | ⟨-, h | h⟩ <;> omega⟩
    · rw [show min x.t R = R by omega] at hok
      exact .inr (.inl ⟨c1, hx.symm, by omega, by rcases hok with h | ⟨-, h | h⟩ <;> omega⟩)
  · rw [show max x.f L = x.f by omega] at hok hx
    by_cases c2 : x.t < R
    · rw [show min x.t R = x.t by omega] at hok
      by_cases c3 : x.wd ≤ x.t - x.f
      · exact .inr (.inr (.inl ⟨by omega, hx.symm, c2, by omega⟩))
      · exact .inr (.inr (.inr (.inr (.inl ⟨by omega, hx.symm, c2, by omega, by omega⟩))))
    · rw [show min x.t R = R by omega] at hok
      by_cases c3 : x.wd ≤ R - x.f
      · exact .inr (.inr (.inr (.inl ⟨by omega, hx.symm, by omega, by omega⟩)))
      · exact .inr (.inr (.inr (.inr (.inr ⟨by omega, hx.symm, by omega, by omega, by rcases hok with h | ⟨h, -⟩ <;> omega⟩))))

theorem far_right {fs : List Fl} {x : Wt} (h49 : fs.all near49 = true) (hr : RightW x) (hs : x.s ≠ 1) {L R fx fr : Int} (hL : bandL fs (findY fs x) (findY fs x + highZ x.ht) = L) (hR : bandR fs (findY fs x) (findY fs x + highZ x.ht) = R) (hx : findX fs x = fx) (hfr : findX fs x + x.wd = fr) :
    (x.t < R ∧ fr = x.t ∧ x.f < L ∧ L ≤ fx) ∨ (x.t < R ∧ fr = x.t ∧ L ≤ x.f ∧ x.f ≤ fx) ∨ (R ≤ x.t ∧ fr = R ∧ x.f < L ∧ L ≤ fx) ∨ (R ≤ x.t ∧ fr = R ∧ L ≤ x.f ∧ x.f ≤ fx) ∨
    (x.t ≤ R ∧ fr = x.t ∧ x.f < L ∧ fx < L ∧ x.t - x.f < x.wd) ∨ (x.t ≤ R ∧ fr = x.t ∧ L ≤ x.f ∧ fx < x.f ∧ x.t - x.f < x.wd) := by
  have hok := (find_is h49 hr).2.1
  rw [findX_is h49 hr] at hx hfr
  unfold okQ at hok
  unfold edgeQ edgeN at hx hfr
  rw [hL, hR] at hok hx hfr
  rw [okN_iff] at hok
  rw [if_neg hs] at hx hfr
  by_cases c1 : x.f < L
  · rw [show max x.f L = L by omega] at hok
    by_cases c2 : x.t < R
    · rw [show min x.t R = x.t by omega] at hok hx hfr
      by_cases c3 : x.wd ≤ x.t - L
      · exact .inl ⟨c2, by omega, c1, by omega⟩
      · exact .inr (.inr (.inr (.inr (.inl ⟨by omega, by omega, c1, by omega, by rcases hok with h | ⟨h, -⟩ <;> omega⟩))))
    · rw [show min x.t R = R by omega] at hok hx hfr
      by_cases c3 : x.wd ≤ R - L
      · exact .inr (.inr (.inl ⟨by omega, by omega, c1, by omega⟩))
      · have h4 : R = x.t := by rcases hok with h | ⟨-, h | h⟩ <;> omega
        exact .inr (.inr (.inr (.inr (.inl ⟨by omega, by omega, c1, by omega, by rcases hok with h | ⟨h, -⟩ <;> omega⟩))))
  · rw [show max x.f L = x.f by omega] at hok
    by_cases c2 : x.t < R
    · rw [show min x.t R = x.t by omega] at hok hx hfr
      by_cases c3 : x.wd ≤ x.t - x.f
      · exact .inr (.inl ⟨c2, by omega, by omega, by omega⟩)
      · exact .inr (.inr (.inr (.inr (.inr ⟨by omega, by omega, by omega, by omega, by rcases hok with h | ⟨h, -⟩ <;> omega⟩))))
    · rw [show min x.t R = R by omega] at hok hx hfr
      by_cases c3 : x.wd ≤ R - x.f
      · exact .inr (.inr (.inr (.inl ⟨by omega, by omega, by omega, by omega⟩)))
      · have h4 : R = x.t := by rcases hok with h | ⟨-, h | h⟩ <;> omega
        exact .inr (.inr (.inr (.inr (.inr ⟨by omega, by omega, by omega, by omega, by rcases hok with h | ⟨h, -⟩ <;> omega⟩))))

set_option maxRecDepth 100000 in
set_option maxHeartbeats 1000000 in
theorem far_few (hO : SpaceOk S) (hP : PlaceOk S) (A : Option Addr) (n c : Nat) (fs : List Fl) (x : Wt) (w : World) (hn : n = fs.length) (hlen : n ≤ 9223372036854775807) (hx : Floats w w.heap.size A fs) (hv : (fs.all near49 && decide ((n : Int) ≤ 30)) = false) :
    Calls Try.prog 6 #[.slice A n c, x.v] w fun e w' => e = .returned (.bool true) ∧ Below w.heap.size w w' := by
  have HBe := Lib.hid (fun w1 (k : Below w.heap.size w w1) => lbegin_no A n c fs 30 w1 hn hlen (hx.thru k) hv)
  clear hn hx hv
  go_enter Try.func6, Try.ntmps6
  go_upto_region 1 with fail
  generalize hW1 : World.alloc w _ = W
  obtain ⟨b0, hb0⟩ : ∃ b0, w.heap.size = b0 := ⟨_, rfl⟩
  have KW := Lib.hid (show Below w.heap.size w W by rw [← hW1]; exact ba1 _ _)
  have AW := Lib.hid (show AtW W b0 x by rw [← hW1, ← hb0]; exact atW_boxed _ _ _)
  rw [hb0]
  clear hW1 hb0
  go_upto_region 3 with (first
    | (go_at_call 10; refine (HBe.out _ KW.out).mono ?_; rintro e w2 ⟨rfl, k2⟩; have K2 := Lib.hid (thru KW.out k2); clear k2)
    | (go_at_call 11; refine (qspeaks hO hP _).mono ?_; rintro e w3 ⟨rfl, k3⟩; have K3 := Lib.hid (thru K2.out k3); clear k3))
  go_wp2_with (first
    | (go_at_call 11; refine (qspeaks hO hP _).mono ?_; rintro e w9 ⟨rfl, k9⟩; have K9 := Lib.hid (thru K3.out k9); clear k9))
  go_ret
  exact ⟨rfl, K9.out⟩

set_option maxRecDepth 100000 in
set_option maxHeartbeats 1000000 in
theorem far_wrong (hO : SpaceOk S) (hP : PlaceOk S) (A : Option Addr) (n c : Nat) (fs : List Fl) (x : Wt) (w : World) (hn : n = fs.length) (hlen : n ≤ 30) (hx : Floats w w.heap.size A fs) (h49 : fs.all near49 = true) (hr : rightW x = false) :
    Calls Try.prog 6 #[.slice A n c, x.v] w fun e w' => e = .returned (.bool true) ∧ Below w.heap.size w w' := by
  have HBe := Lib.hid (fun w1 (k : Below w.heap.size w w1) => lbegin_any hO A n c fs 30 w1 hn (by omega) (by omega) (hx.thru k) h49)
  have HRi := Lib.hid (fun w => right_is x false hr w)
  clear hn hx h49
  go_enter Try.func6, Try.ntmps6
  go_upto_region 1 with fail
  generalize hW1 : World.alloc w _ = W
  obtain ⟨b0, hb0⟩ : ∃ b0, w.heap.size = b0 := ⟨_, rfl⟩
  have KW := Lib.hid (show Below w.heap.size w W by rw [← hW1]; exact ba1 _ _)
  have AW := Lib.hid (show AtW W b0 x by rw [← hW1, ← hb0]; exact atW_boxed _ _ _)
  rw [hb0]
  clear hW1 hb0
  go_upto_region 3 with (first
    | (go_at_call 10; refine (HBe.out _ KW.out).mono ?_; rintro e w2 ⟨⟨p, F, rfl, hL, hF⟩, k2⟩; have S2 := Lib.hid (⟨hL, thru KW.out k2, AW.out.below k2⟩ : S w2 F p fs ∧ Below w.heap.size w w2 ∧ AtW w2 b0 x); clear hL hF k2)
    | (go_at_call 11; refine (qspeaks hO hP _).mono ?_; rintro e w3 ⟨rfl, k3⟩; have S3 := Lib.hid (⟨thruS hO S2.out.1 k3, thru S2.out.2.1 k3, S2.out.2.2.below k3⟩ : S w3 F p fs ∧ Below w.heap.size w w3 ∧ AtW w3 b0 x); obtain ⟨c0, c1, c2, c3, c4, c5, c6⟩ := S3.out.2.2; clear k3)
    | (go_at_call 12; refine (HRi.out _).mono ?_; rintro e w4 ⟨rfl, k4⟩; have S4 := Lib.hid (⟨thruS hO S3.out.1 k4, thru S3.out.2.1 k4, S3.out.2.2.below k4⟩ : S w4 F p fs ∧ Below w.heap.size w w4 ∧ AtW w4 b0 x); clear k4))
  go_wp2_with (first
    | (go_at_call 11; refine (qspeaks hO hP _).mono ?_; rintro e w9 ⟨rfl, k9⟩; have K9 := Lib.hid (thru S4.out.2.1 k9); clear k9))
  go_ret
  exact ⟨rfl, K9.out⟩

set_option maxRecDepth 100000 in
set_option maxHeartbeats 1000000 in
theorem far_yes (hO : SpaceOk S) (hP : PlaceOk S) (A : Option Addr) (n c : Nat) (fs : List Fl) (x : Wt) (w : World) (hn : n = fs.length) (hlen : n ≤ 30) (hx : Floats w w.heap.size A fs) (h49 : fs.all near49 = true) (hr : RightW x) :
    Calls Try.prog 6 #[.slice A n c, x.v] w fun e w' => e = .returned (.bool true) ∧ Below w.heap.size w w' := by
  have HBe := Lib.hid (fun w1 (k : Below w.heap.size w w1) => lbegin_any hO A n c fs 30 w1 hn (by omega) (by omega) (hx.thru k) h49)
  have HRi := Lib.hid (fun w => right_is x true (rightW_iff.2 hr) w)
  have HFi := Lib.hid (fun w1 F p (h : S w1 F p fs) => hP.find w1 F p fs x h h49 hr)
  have hfy := findY_49 h49 hr
  have hfx := find_49 h49 hr
  have hh1 := hr.ht2
  have HRo := Lib.hid (fun w => hO.rows (findY fs x) x.ht w ⟨by omega, by omega⟩ (by omega))
  have hz : findY fs x + highZ x.ht ≤ 4611686018427387904 := by unfold highZ; split <;> omega
  have HBo := Lib.hid (fun w1 F p (h : S w1 F p fs) => hO.bounds w1 F p fs (findY fs x) (findY fs x + highZ x.ht) h (near49_near h49) (by omega) hz)
  have HWs := Lib.hid (show IntKind.i64.wrap (x.t - x.f) = x.t - x.f from IntWalk.i64_in _ (by have := hr.f1; have := hr.f2; have := hr.t1; have := hr.t2; omega))
  have HFL := Lib.hid (fun (hs : x.s = 1) L R fx hL hR hx => far_left h49 hr hs (L := L) (R := R) (fx := fx) hL hR hx)
  have HFR := Lib.hid (fun (hs : x.s ≠ 1) L R fx fr hL hR hx hfr => far_right h49 hr hs (L := L) (R := R) (fx := fx) (fr := fr) hL hR hx hfr)
  unfold placed at HFi
  obtain ⟨L, hL⟩ : ∃ L, bandL fs (findY fs x) (findY fs x + highZ x.ht) = L := ⟨_, rfl⟩
  obtain ⟨R, hR⟩ : ∃ R, bandR fs (findY fs x) (findY fs x + highZ x.ht) = R := ⟨_, rfl⟩
  obtain ⟨fx, hfx0⟩ : ∃ fx, findX fs x = fx := ⟨_, rfl⟩
  obtain ⟨fr, hfr⟩ : ∃ fr, findX fs x + x.wd = fr := ⟨_, rfl⟩
  have HLe := Lib.hid (fun hs => HFL.out hs L R fx hL hR hfx0)
  have HRi' := Lib.hid (fun hs => HFR.out hs L R fx fr hL hR hfx0 hfr)
  have HFRX := Lib.hid (show fx + x.wd = fr by rw [← hfx0]; exact hfr)
  rw [hL, hR] at HBo
  rw [hfr, hfx0] at HFi
  generalize findY fs x + highZ x.ht = yh at HRo HBo
  generalize findY fs x = fy at HRo HBo HFi
  generalize fy + x.ht = fb at HFi
  clear hn hx h49 hr hfy hfx hh1 hz hL hR hfx0 hfr HFL HFR
  go_enter Try.func6, Try.ntmps6
  go_upto_region 1 with fail
  generalize hW1 : World.alloc w _ = W
  obtain ⟨b0, hb0⟩ : ∃ b0, w.heap.size = b0 := ⟨_, rfl⟩
  have KW := Lib.hid (show Below w.heap.size w W by rw [← hW1]; exact ba1 _ _)
  have AW := Lib.hid (show AtW W b0 x by rw [← hW1, ← hb0]; exact atW_boxed _ _ _)
  rw [hb0]
  clear hW1 hb0
  go_upto_region 4 with (first
    | (go_at_call 10; refine (HBe.out _ KW.out).mono ?_; rintro e w2 ⟨⟨p, F, rfl, hL, hF⟩, k2⟩; have S2 := Lib.hid (⟨hL, thru KW.out k2, AW.out.below k2⟩ : S w2 F p fs ∧ Below w.heap.size w w2 ∧ AtW w2 b0 x); clear hL hF k2)
    | (go_at_call 11; refine (qspeaks hO hP _).mono ?_; rintro e w3 ⟨rfl, k3⟩; have S3 := Lib.hid (⟨thruS hO S2.out.1 k3, thru S2.out.2.1 k3, S2.out.2.2.below k3⟩ : S w3 F p fs ∧ Below w.heap.size w w3 ∧ AtW w3 b0 x); obtain ⟨c0, c1, c2, c3, c4, c5, c6⟩ := S3.out.2.2; clear k3)
    | (go_at_call 12; refine (HRi.out _).mono ?_; rintro e w4 ⟨rfl, k4⟩; have S4 := Lib.hid (⟨thruS hO S3.out.1 k4, thru S3.out.2.1 k4, S3.out.2.2.below k4⟩ : S w4 F p fs ∧ Below w.heap.size w w4 ∧ AtW w4 b0 x); clear k4))
  clear c0 c1 c2 c3 c4 c5 c6
  obtain ⟨c0, c1, c2, c3, c4, c5, c6⟩ := S4.out.2.2
  go_upto_region 5 with (first
    | (go_at_call 14; refine (wantOf_any x _).mono ?_; rintro e w5 ⟨rfl, k5⟩; have S5 := Lib.hid (⟨thruS hO S4.out.1 k5, thru S4.out.2.1 k5, S4.out.2.2.below k5⟩ : S w5 F p fs ∧ Below w.heap.size w w5 ∧ AtW w5 b0 x); clear k5)
    | (go_at_call 18; refine (HFi.out _ _ _ S5.out.1).mono ?_; rintro e w6 ⟨rfl, k6⟩; have S6 := Lib.hid (⟨thruS hO S5.out.1 k6, thru S5.out.2.1 k6, S5.out.2.2.below k6⟩ : S w6 F p fs ∧ Below w.heap.size w w6 ∧ AtW w6 b0 x); clear k6))
  clear c0 c1 c2 c3 c4 c5 c6
  generalize hW7 : World.alloc w6 _ = W7
  obtain ⟨b1, hb1⟩ : ∃ b1, w6.heap.size = b1 := ⟨_, rfl⟩
  have k7 : Below w6.heap.size w6 W7 := by rw [← hW7]; exact ba1 _ _
  have r7 : R4 W7 b1 fx fy fr fb := by rw [← hW7, ← hb1]; exact R4.of_block (heap_alloc_new w6 _)
  have S7 := Lib.hid (⟨thruS hO S6.out.1 k7, thru S6.out.2.1 k7, S6.out.2.2.below k7, r7⟩ : S W7 F p fs ∧ Below w.heap.size w W7 ∧ AtW W7 b0 x ∧ R4 W7 b1 fx fy fr fb)
  rw [hb1]
  clear hW7 hb1 k7 r7
  obtain ⟨c0, c1, c2, c3, c4, c5, c6⟩ := S7.out.2.2.1
  obtain ⟨r0, r1, r2, r3⟩ := S7.out.2.2.2
  go_upto_region 6 with (first
    | (go_at_call 27; refine (HRo.out _).mono ?_; rintro e w8 ⟨rfl, k8⟩; have S8 := Lib.hid (⟨thruS hO S7.out.1 k8, thru S7.out.2.1 k8, S7.out.2.2.1.below k8, S7.out.2.2.2.below k8⟩ : S w8 F p fs ∧ Below w.heap.size w w8 ∧ AtW w8 b0 x ∧ R4 w8 b1 fx fy fr fb); clear k8)
    | (go_at_call 26; refine (HBo.out _ _ _ S8.out.1).mono ?_; rintro e w9 ⟨rfl, k9⟩; have S9 := Lib.hid (⟨thru S8.out.2.1 k9, S8.out.2.2.1.below k9, S8.out.2.2.2.below k9⟩ : Below w.heap.size w w9 ∧ AtW w9 b0 x ∧ R4 w9 b1 fx fy fr fb); clear k9))
  clear c0 c1 c2 c3 c4 c5 c6 r0 r1 r2 r3
  generalize hWa : World.alloc w9 _ = Wa
  obtain ⟨b2, hb2⟩ : ∃ b2, w9.heap.size = b2 := ⟨_, rfl⟩
  have ka : Below w9.heap.size w9 Wa := by rw [← hWa]; exact ba1 _ _
  have g0 : Wa.cell? ⟨b2, 0, none⟩ = some (.int .i64 L) := by rw [← hWa, ← hb2]; simp [go_sem]
  have g1 : Wa.cell? ⟨b2, 1, none⟩ = some (.int .i64 R) := by rw [← hWa, ← hb2]; simp [go_sem]
  have Sa := Lib.hid (⟨thru S9.out.1 ka, S9.out.2.1.below ka, S9.out.2.2.below ka⟩ : Below w.heap.size w Wa ∧ AtW Wa b0 x ∧ R4 Wa b1 fx fy fr fb)
  rw [hb2]
  clear hWa hb2 ka S9 S8 S7 S6 S5 S4
  obtain ⟨c0, c1, c2, c3, c4, c5, c6⟩ := Sa.out.2.1
  obtain ⟨r0, r1, r2, r3⟩ := Sa.out.2.2
  have hw := HWs.out
  obtain ⟨sv, hsv⟩ : ∃ sv : Bool, (x.s == 1) = sv := ⟨_, rfl⟩
  cases sv with
  | true =>
    have hcs := HLe.out (by simpa using hsv)
    rw [HFRX.out] at hcs
    rcases hcs with ⟨d1, rfl, d2, d3⟩ | ⟨d1, rfl, d2, d3⟩ | ⟨d1, rfl, d2, d3⟩ | ⟨d1, rfl, d2, d3⟩ | ⟨d1, rfl, d2, d3, d4⟩ | ⟨d1, rfl, d2, d3, d4⟩
    all_goals
      go_wp2_with fail
      all_goals
        go_ret
        exact ⟨ret_b (by simp <;> omega), Sa.out.1⟩
  | false =>
    have hcs := HRi'.out (by simpa using hsv)
    rcases hcs with ⟨d1, rfl, d2, d3⟩ | ⟨d1, rfl, d2, d3⟩ | ⟨d1, rfl, d2, d3⟩ | ⟨d1, rfl, d2, d3⟩ | ⟨d1, rfl, d2, d3, d4⟩ | ⟨d1, rfl, d2, d3, d4⟩
    all_goals
      go_wp2_with fail
      all_goals
        go_ret
        exact ⟨ret_b (by simp <;> omega), Sa.out.1⟩

theorem far_any (hO : SpaceOk S) (hP : PlaceOk S) (A : Option Addr) (n c : Nat) (fs : List Fl) (x : Wt) (w : World) (hn : n = fs.length) (hm : n ≤ 9223372036854775807) (hx : Floats w w.heap.size A fs) :
    Calls Try.prog 6 #[.slice A n c, x.v] w fun e w' => e = .returned (.bool true) ∧ Below w.heap.size w w' := by
  by_cases hh : (fs.all near49 && decide ((n : Int) ≤ 30)) = true
  · simp only [Bool.and_eq_true, decide_eq_true_eq] at hh
    by_cases h2 : rightW x = true
    · have hr := rightW_iff.1 h2
      exact far_yes hO hP A n c fs x w hn (by omega) hx hh.1 hr
    · exact far_wrong hO hP A n c fs x w hn (by omega) hx hh.1 (by simpa using h2)
  · exact far_few hO hP A n c fs x w hn hm hx (by simpa using hh)

end

end Go.Proofs.Ytkabpflbedpbaaa.Place
