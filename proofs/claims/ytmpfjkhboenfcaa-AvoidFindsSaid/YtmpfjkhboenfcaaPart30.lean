/- The law: where a box may stand, and stands. -/
import Derived.Test.YtmpfjkhboenfcaaPart25
import Derived.Test.YtmpfjkhboenfcaaPart29
namespace Go.Proofs.Ytmpfjkhboenfcaa.Avoid
open Go.RowKit Go.Sort Go.Proofs.Ytmpfjkhboenfcaa.Rect Go.Proofs.Ytmpfjkhboenfcaa.More Go.Proofs.Ytmpfjkhboenfcaa.Shelf Go.Proofs.Ytmpfjkhboenfcaa.Space Go.Proofs.Ytmpfjkhboenfcaa.Place
set_option linter.unusedVariables false
set_option linter.unusedSimpArgs false

section
variable {S : World → (Nat → Prop) → Addr → List Fl → Prop}

set_option maxRecDepth 100000 in
set_option maxHeartbeats 1000000 in
theorem vfinds_few (hO : SpaceOk S) (hP : AvoidOk S) (A : Option Addr) (n c : Nat) (fs : List Fl) (x : Vt) (y : Int) (w : World) (hn : n = fs.length) (hlen : n ≤ 9223372036854775807) (hx : Floats w w.heap.size A fs) (hv : (fs.all near49 && decide ((n : Int) ≤ 30)) = false) :
    Calls Try.prog 3 #[.slice A n c, x.v, .int .i64 y] w fun e w' => e = .returned (.bool true) ∧ Below w.heap.size w w' := by
  have HBe := Lib.hid (fun w1 (k : Below w.heap.size w w1) => vbegin_no A n c fs 30 w1 hn hlen (hx.thru k) hv)
  clear hn hx hv
  go_enter Try.func3, Try.ntmps3
  go_upto_region 1 with fail
  generalize hW1 : World.alloc w _ = W
  obtain ⟨b0, hb0⟩ : ∃ b0, w.heap.size = b0 := ⟨_, rfl⟩
  have KW := Lib.hid (show Below w.heap.size w W by rw [← hW1]; exact ba1 _ _)
  have AW := Lib.hid (show AtV W b0 x by rw [← hW1, ← hb0]; exact atV_boxed _ _ _)
  rw [hb0]
  clear hW1 hb0
  go_upto_region 3 with (first
    | (go_at_call 9; refine (HBe.out _ KW.out).mono ?_; rintro e w2 ⟨rfl, k2⟩; have K2 := Lib.hid (thru KW.out k2); clear k2)
    | (go_at_call 10; refine (vspeaks hO hP _).mono ?_; rintro e w3 ⟨rfl, k3⟩; have K3 := Lib.hid (thru K2.out k3); clear k3))
  go_wp2_with (first
    | (go_at_call 10; refine (vspeaks hO hP _).mono ?_; rintro e w9 ⟨rfl, k9⟩; have K9 := Lib.hid (thru K3.out k9); clear k9))
  go_ret
  exact ⟨rfl, K9.out⟩

set_option maxRecDepth 100000 in
set_option maxHeartbeats 1000000 in
theorem vfinds_wrong (hO : SpaceOk S) (hP : AvoidOk S) (A : Option Addr) (n c : Nat) (fs : List Fl) (x : Vt) (y : Int) (w : World) (hn : n = fs.length) (hlen : n ≤ 30) (hx : Floats w w.heap.size A fs) (h49 : fs.all near49 = true) (hr : rightV x = false) :
    Calls Try.prog 3 #[.slice A n c, x.v, .int .i64 y] w fun e w' => e = .returned (.bool true) ∧ Below w.heap.size w w' := by
  have HBe := Lib.hid (fun w1 (k : Below w.heap.size w w1) => vbegin_any hO A n c fs 30 w1 hn (by omega) (by omega) (hx.thru k) h49)
  have HRi := Lib.hid (fun w => vright_is x false hr w)
  clear hn hx h49
  go_enter Try.func3, Try.ntmps3
  go_upto_region 1 with fail
  generalize hW1 : World.alloc w _ = W
  obtain ⟨b0, hb0⟩ : ∃ b0, w.heap.size = b0 := ⟨_, rfl⟩
  have KW := Lib.hid (show Below w.heap.size w W by rw [← hW1]; exact ba1 _ _)
  have AW := Lib.hid (show AtV W b0 x by rw [← hW1, ← hb0]; exact atV_boxed _ _ _)
  rw [hb0]
  clear hW1 hb0
  go_upto_region 3 with (first
    | (go_at_call 9; refine (HBe.out _ KW.out).mono ?_; rintro e w2 ⟨⟨p, F, rfl, hL, hF⟩, k2⟩; have S2 := Lib.hid (⟨hL, thru KW.out k2, AW.out.below k2⟩ : S w2 F p fs ∧ Below w.heap.size w w2 ∧ AtV w2 b0 x); clear hL hF k2)
    | (go_at_call 10; refine (vspeaks hO hP _).mono ?_; rintro e w3 ⟨rfl, k3⟩; have S3 := Lib.hid (⟨thruS hO S2.out.1 k3, thru S2.out.2.1 k3, S2.out.2.2.below k3⟩ : S w3 F p fs ∧ Below w.heap.size w w3 ∧ AtV w3 b0 x); obtain ⟨c0, c1, c2, c3, c4⟩ := S3.out.2.2; clear k3)
    | (go_at_call 11; refine (HRi.out _).mono ?_; rintro e w4 ⟨rfl, k4⟩; have S4 := Lib.hid (⟨thruS hO S3.out.1 k4, thru S3.out.2.1 k4, S3.out.2.2.below k4⟩ : S w4 F p fs ∧ Below w.heap.size w w4 ∧ AtV w4 b0 x); clear k4))
  go_wp2_with (first
    | (go_at_call 10; refine (vspeaks hO hP _).mono ?_; rintro e w9 ⟨rfl, k9⟩; have K9 := Lib.hid (thru S4.out.2.1 k9); clear k9))
  go_ret
  exact ⟨rfl, K9.out⟩

set_option maxRecDepth 100000 in
set_option maxHeartbeats 1000000 in
theorem vfinds_high (hO : SpaceOk S) (hP : AvoidOk S) (A : Option Addr) (n c : Nat) (fs : List Fl) (x : Vt) (y : Int) (w : World) (hn : n = fs.length) (hlen : n ≤ 30) (hx : Floats w w.heap.size A fs) (h49 : fs.all near49 = true) (hr : RightV x) (hy : 281474976710656 < y) :
    Calls Try.prog 3 #[.slice A n c, x.v, .int .i64 y] w fun e w' => e = .returned (.bool true) ∧ Below w.heap.size w w' := by
  have HBe := Lib.hid (fun w1 (k : Below w.heap.size w w1) => vbegin_any hO A n c fs 30 w1 hn (by omega) (by omega) (hx.thru k) h49)
  have HRi := Lib.hid (fun w => vright_is x true (rightV_iff.2 hr) w)
  clear hn hx h49
  go_enter Try.func3, Try.ntmps3
  go_upto_region 1 with fail
  generalize hW1 : World.alloc w _ = W
  obtain ⟨b0, hb0⟩ : ∃ b0, w.heap.size = b0 := ⟨_, rfl⟩
  have KW := Lib.hid (show Below w.heap.size w W by rw [← hW1]; exact ba1 _ _)
  have AW := Lib.hid (show AtV W b0 x by rw [← hW1, ← hb0]; exact atV_boxed _ _ _)
  rw [hb0]
  clear hW1 hb0
  go_upto_region 3 with (first
    | (go_at_call 9; refine (HBe.out _ KW.out).mono ?_; rintro e w2 ⟨⟨p, F, rfl, hL, hF⟩, k2⟩; have S2 := Lib.hid (⟨hL, thru KW.out k2, AW.out.below k2⟩ : S w2 F p fs ∧ Below w.heap.size w w2 ∧ AtV w2 b0 x); clear hL hF k2)
    | (go_at_call 10; refine (vspeaks hO hP _).mono ?_; rintro e w3 ⟨rfl, k3⟩; have S3 := Lib.hid (⟨thruS hO S2.out.1 k3, thru S2.out.2.1 k3, S2.out.2.2.below k3⟩ : S w3 F p fs ∧ Below w.heap.size w w3 ∧ AtV w3 b0 x); obtain ⟨c0, c1, c2, c3, c4⟩ := S3.out.2.2; clear k3)
    | (go_at_call 11; refine (HRi.out _).mono ?_; rintro e w4 ⟨rfl, k4⟩; have S4 := Lib.hid (⟨thruS hO S3.out.1 k4, thru S3.out.2.1 k4, S3.out.2.2.below k4⟩ : S w4 F p fs ∧ Below w.heap.size w w4 ∧ AtV w4 b0 x); clear k4))
  go_wp2_with (first
    | (go_at_call 10; refine (vspeaks hO hP _).mono ?_; rintro e w9 ⟨rfl, k9⟩; have K9 := Lib.hid (thru S4.out.2.1 k9); clear k9))
  go_ret
  exact ⟨rfl, K9.out⟩

set_option maxRecDepth 100000 in
set_option maxHeartbeats 1000000 in
theorem vfinds_low (hO : SpaceOk S) (hP : AvoidOk S) (A : Option Addr) (n c : Nat) (fs : List Fl) (x : Vt) (y : Int) (w : World) (hn : n = fs.length) (hlen : n ≤ 30) (hx : Floats w w.heap.size A fs) (h49 : fs.all near49 = true) (hr : RightV x) (hy1 : ¬ 281474976710656 < y) (hy : y < -281474976710656) :
    Calls Try.prog 3 #[.slice A n c, x.v, .int .i64 y] w fun e w' => e = .returned (.bool true) ∧ Below w.heap.size w w' := by
  have HBe := Lib.hid (fun w1 (k : Below w.heap.size w w1) => vbegin_any hO A n c fs 30 w1 hn (by omega) (by omega) (hx.thru k) h49)
  have HRi := Lib.hid (fun w => vright_is x true (rightV_iff.2 hr) w)
  clear hn hx h49
  go_enter Try.func3, Try.ntmps3
  go_upto_region 1 with fail
  generalize hW1 : World.alloc w _ = W
  obtain ⟨b0, hb0⟩ : ∃ b0, w.heap.size = b0 := ⟨_, rfl⟩
  have KW := Lib.hid (show Below w.heap.size w W by rw [← hW1]; exact ba1 _ _)
  have AW := Lib.hid (show AtV W b0 x by rw [← hW1, ← hb0]; exact atV_boxed _ _ _)
  rw [hb0]
  clear hW1 hb0
  go_upto_region 3 with (first
    | (go_at_call 9; refine (HBe.out _ KW.out).mono ?_; rintro e w2 ⟨⟨p, F, rfl, hL, hF⟩, k2⟩; have S2 := Lib.hid (⟨hL, thru KW.out k2, AW.out.below k2⟩ : S w2 F p fs ∧ Below w.heap.size w w2 ∧ AtV w2 b0 x); clear hL hF k2)
    | (go_at_call 10; refine (vspeaks hO hP _).mono ?_; rintro e w3 ⟨rfl, k3⟩; have S3 := Lib.hid (⟨thruS hO S2.out.1 k3, thru S2.out.2.1 k3, S2.out.2.2.below k3⟩ : S w3 F p fs ∧ Below w.heap.size w w3 ∧ AtV w3 b0 x); obtain ⟨c0, c1, c2, c3, c4⟩ := S3.out.2.2; clear k3)
    | (go_at_call 11; refine (HRi.out _).mono ?_; rintro e w4 ⟨rfl, k4⟩; have S4 := Lib.hid (⟨thruS hO S3.out.1 k4, thru S3.out.2.1 k4, S3.out.2.2.below k4⟩ : S w4 F p fs ∧ Below w.heap.size w w4 ∧ AtV w4 b0 x); clear k4))
  go_wp2_with (first
    | (go_at_call 10; refine (vspeaks hO hP _).mono ?_; rintro e w9 ⟨rfl, k9⟩; have K9 := Lib.hid (thru S4.out.2.1 k9); clear k9))
  go_ret
  exact ⟨rfl, K9.out⟩

set_option maxRecDepth 100000 in
set_option maxHeartbeats 1000000 in
theorem vfinds_yes (hO : SpaceOk S) (hP : AvoidOk S) (A : Option Addr) (n c : Nat) (fs : List Fl) (x : Vt) (y : Int) (w : World) (hn : n = fs.length) (hlen : n ≤ 30) (hx : Floats w w.heap.size A fs) (h49 : fs.all near49 = true) (hr : RightV x) (hy1 : ¬ 281474976710656 < y) (hy2 : ¬ y < -281474976710656) :
    Calls Try.prog 3 #[.slice A n c, x.v, .int .i64 y] w fun e w' => e = .returned (.bool true) ∧ Below w.heap.size w w' := by
  have HBe := Lib.hid (fun w1 (k : Below w.heap.size w w1) => vbegin_any hO A n c fs 30 w1 hn (by omega) (by omega) (hx.thru k) h49)
  have HRi := Lib.hid (fun w => vright_is x true (rightV_iff.2 hr) w)
  have HFi := Lib.hid (fun w1 F p (h : S w1 F p fs) => hP.find w1 F p fs x h h49 hr)
  have HAt := Lib.hid (fun w1 F p (h : S w1 F p fs) => hP.at' w1 F p fs x y h h49 hr ⟨by omega, by omega⟩)
  have HFl := Lib.hid (fun w1 F p (h : S w1 F p fs) => (hO.floats w1 F p fs h (near49_near h49)).mono (R' := fun e w'' => ∃ u, e = .returned u ∧ (∃ A c, u = .slice A n c) ∧ Below w1.heap.size w1 w'') fun e w'' ⟨⟨A, c, e1, _⟩, e2⟩ => ⟨_, e1, ⟨A, c, by rw [hn]⟩, e2⟩)
  have HRa := Lib.hid (fun w1 (k : Below w.heap.size w w1) => vrefat_any A n c fs x y w1 hn (by omega) (hx.thru k) h49 hr ⟨by omega, by omega⟩)
  have HRf := Lib.hid (fun w1 (k : Below w.heap.size w w1) => vreffind_any A n c fs x w1 hn (by omega) (hx.thru k) h49 hr)
  unfold boxV at HFi
  generalize findVX fs x = fx at HFi HRf
  generalize findVY fs x = fy at HFi HRf
  generalize fx + x.wd = fr at HFi HRf
  generalize fy + x.ht = fb at HFi HRf
  generalize atV fs x y = ax at HAt HRa
  generalize okV fs x y = av at HAt HRa
  clear hn hx h49 hr
  go_enter Try.func3, Try.ntmps3
  go_upto_region 1 with fail
  generalize hW1 : World.alloc w _ = W
  obtain ⟨b0, hb0⟩ : ∃ b0, w.heap.size = b0 := ⟨_, rfl⟩
  have KW := Lib.hid (show Below w.heap.size w W by rw [← hW1]; exact ba1 _ _)
  have AW := Lib.hid (show AtV W b0 x by rw [← hW1, ← hb0]; exact atV_boxed _ _ _)
  rw [hb0]
  clear hW1 hb0
  go_upto_region 4 with (first
    | (go_at_call 9; refine (HBe.out _ KW.out).mono ?_; rintro e w2 ⟨⟨p, F, rfl, hL, hF⟩, k2⟩; have S2 := Lib.hid (⟨hL, thru KW.out k2, AW.out.below k2⟩ : S w2 F p fs ∧ Below w.heap.size w w2 ∧ AtV w2 b0 x); clear hL hF k2)
    | (go_at_call 10; refine (vspeaks hO hP _).mono ?_; rintro e w3 ⟨rfl, k3⟩; have S3 := Lib.hid (⟨thruS hO S2.out.1 k3, thru S2.out.2.1 k3, S2.out.2.2.below k3⟩ : S w3 F p fs ∧ Below w.heap.size w w3 ∧ AtV w3 b0 x); obtain ⟨c0, c1, c2, c3, c4⟩ := S3.out.2.2; clear k3)
    | (go_at_call 11; refine (HRi.out _).mono ?_; rintro e w4 ⟨rfl, k4⟩; have S4 := Lib.hid (⟨thruS hO S3.out.1 k4, thru S3.out.2.1 k4, S3.out.2.2.below k4⟩ : S w4 F p fs ∧ Below w.heap.size w w4 ∧ AtV w4 b0 x); clear k4))
  clear c0 c1 c2 c3 c4
  obtain ⟨c0, c1, c2, c3, c4⟩ := S4.out.2.2
  go_upto_region 5 with (first
    | (go_at_call 13; refine (vwantOf_any x _).mono ?_; rintro e w5 ⟨rfl, k5⟩; have S5 := Lib.hid (⟨thruS hO S4.out.1 k5, thru S4.out.2.1 k5, S4.out.2.2.below k5⟩ : S w5 F p fs ∧ Below w.heap.size w w5 ∧ AtV w5 b0 x); clear k5)
    | (go_at_call 12; refine (HAt.out _ _ _ S5.out.1).mono ?_; rintro e w6 ⟨rfl, k6⟩; have S6 := Lib.hid (⟨thruS hO S5.out.1 k6, thru S5.out.2.1 k6, S5.out.2.2.below k6⟩ : S w6 F p fs ∧ Below w.heap.size w w6 ∧ AtV w6 b0 x); clear k6))
  clear c0 c1 c2 c3 c4
  obtain ⟨c0, c1, c2, c3, c4⟩ := S6.out.2.2
  go_upto_region 6 with (first
    | (go_at_call 14; refine (HRa.out _ S6.out.2.1).mono ?_; rintro e w7 ⟨rfl, k7⟩; have S7 := Lib.hid (⟨thruS hO S6.out.1 k7, thru S6.out.2.1 k7, S6.out.2.2.below k7⟩ : S w7 F p fs ∧ Below w.heap.size w w7 ∧ AtV w7 b0 x); clear k7))
  clear c0 c1 c2 c3 c4 S6 S5 S4 HAt HRa hy1 hy2
  have HA := Lib.hid (fun w' (j : Below w7.heap.size w7 w') => S7.out.2.2.below j)
  have HS := Lib.hid (fun w' (j : Below w7.heap.size w7 w') => thruS hO S7.out.1 j)
  have HB := Lib.hid (fun w' (j : Below w7.heap.size w7 w') => thru S7.out.2.1 j)
  refine Hold.wp_region_hold [.val (.int .i64 ax), .val (.int .i64 ax), .val (.bool true), .val (.bool true), .val (.bool av), .val (.bool av), .val (.bool true), .val (.bool true), .val (.bool true), .val (.pointer (some p)), .val (x.v), .val (x.v), .val (.agg #[.int .i64 fx, .int .i64 fy, .int .i64 fr, .int .i64 fb]), .val (.slice A n c), .val (x.v), .val (.agg #[.int .i64 fx, .int .i64 fy, .int .i64 fr, .int .i64 fb]), .val (.agg #[.int .i64 fx, .int .i64 fy, .int .i64 fr, .int .i64 fb]), .val (.bool true), .val (.bool true), .val (.bool true), .val (.pointer (some p)), .some (fun _ u => ∃ A c, u = .slice A n c), .val (.int .i64 (n : Int)), .val (.slice A n c), .val (.int .i64 (n : Int)), .val (.bool true), .val (.bool true)] (by kernel_rfl) (by kernel_rfl) (by kernel_rfl) ?_ ?_
  · simp only [Hold.fill, Hold.Leave.value]
    refine ⟨?_, ?_, ?_, ?_, ?_, ?_, ?_, ?_, ?_, ?_, ?_, ?_, ?_, ?_, ?_, ?_, ?_, ?_, ?_, ?_, ?_, ?_, ?_, ?_, ?_, ?_, ?_, trivial⟩
    · intro gg w' hw hk
      go_simp
      exact ⟨rfl, rfl⟩
    · intro gg w' hw hk
      go_simp
      exact ⟨rfl, rfl⟩
    · intro gg w' hw hk
      go_simp
      exact ⟨rfl, rfl⟩
    · intro gg w' hw hk
      go_simp
      exact ⟨rfl, rfl⟩
    · intro gg w' hw hk
      go_simp
      exact ⟨rfl, rfl⟩
    · intro gg w' hw hk
      go_simp
      exact ⟨rfl, rfl⟩
    · intro gg w' hw hk
      go_simp
      exact ⟨rfl, rfl⟩
    · intro gg w' hw hk
      go_simp
      exact ⟨rfl, rfl⟩
    · intro gg w' hw hk
      go_simp
      exact ⟨rfl, rfl⟩
    · intro gg w' hw hk
      go_simp
      exact ⟨rfl, rfl⟩
    · intro gg w' hw hk
      have q0 := (HA.out w' hw).1
      have q1 := (HA.out w' hw).2.1
      have q2 := (HA.out w' hw).2.2.1
      have q3 := (HA.out w' hw).2.2.2.1
      have q4 := (HA.out w' hw).2.2.2.2
      go_simp
      exact ⟨rfl, rfl⟩
    · intro gg w' hw hk
      go_simp
      exact Hold.stays_call (vwantOf_any x w')
    · intro gg w' hw hk
      go_simp
      exact Hold.stays_call (HFi.out w' _ _ (HS.out w' hw))
    · intro gg w' hw hk
      go_simp
      exact ⟨rfl, rfl⟩
    · intro gg w' hw hk
      have q0 := (HA.out w' hw).1
      have q1 := (HA.out w' hw).2.1
      have q2 := (HA.out w' hw).2.2.1
      have q3 := (HA.out w' hw).2.2.2.1
      have q4 := (HA.out w' hw).2.2.2.2
      go_simp
      exact ⟨rfl, rfl⟩
    · intro gg w' hw hk
      go_simp
      exact Hold.stays_call (HRf.out w' (HB.out w' hw))
    · intro gg w' hw hk
      go_simp
      exact Hold.stays_call (of_any fx fy fr fb w')
    · intro gg w' hw hk
      have q := eqR4_same fx fy fr fb w'
      go_simp
      exact ⟨rfl, rfl⟩
    · intro gg w' hw hk
      go_simp
      exact ⟨rfl, rfl⟩
    · intro gg w' hw hk
      go_simp
      exact ⟨rfl, rfl⟩
    · intro gg w' hw hk
      go_simp
      exact ⟨rfl, rfl⟩
    · refine ⟨fun _ _ _ _ h => h, ?_⟩
      intro gg w' hw hk
      go_simp
      exact Hold.gives_call (HFl.out w' _ _ (HS.out w' hw))
    · intro gg w' hw hk
      obtain ⟨A8, c8, e8⟩ := hk ⟨21, .data⟩ (by simp) rfl _ rfl
      replace e8 : gg 21 = .slice A8 n c8 := e8
      go_simp
      exact ⟨rfl, rfl⟩
    · intro gg w' hw hk
      go_simp
      exact ⟨rfl, rfl⟩
    · intro gg w' hw hk
      go_simp
      exact ⟨rfl, rfl⟩
    · intro gg w' hw hk
      go_simp
      exact ⟨rfl, rfl⟩
    · intro gg w' hw hk
      go_simp
      exact ⟨rfl, rfl⟩
  intro gg w8 k8 hgg
  obtain ⟨A8, c8, e8⟩ := hgg 21 _ rfl
  clear hgg
  simp only [Hold.fill, Hold.Leave.value, List.length_cons, List.length_nil, List.drop_succ_cons, List.drop_zero]
  have K8 := Lib.hid (HB.out _ k8)
  clear k8
  rw [e8]
  go_simp
  go_wp2_with fail
  go_ret
  exact ⟨rfl, K8.out⟩

theorem vfinds_any (hO : SpaceOk S) (hP : AvoidOk S) (A : Option Addr) (n c : Nat) (fs : List Fl) (x : Vt) (y : Int) (w : World) (hn : n = fs.length) (hm : n ≤ 9223372036854775807) (hx : Floats w w.heap.size A fs) :
    Calls Try.prog 3 #[.slice A n c, x.v, .int .i64 y] w fun e w' => e = .returned (.bool true) ∧ Below w.heap.size w w' := by
  by_cases hh : (fs.all near49 && decide ((n : Int) ≤ 30)) = true
  · simp only [Bool.and_eq_true, decide_eq_true_eq] at hh
    by_cases h2 : rightV x = true
    · have hr := rightV_iff.1 h2
      by_cases hy1 : 281474976710656 < y
      · exact vfinds_high hO hP A n c fs x y w hn (by omega) hx hh.1 hr hy1
      · by_cases hy2 : y < -281474976710656
        · exact vfinds_low hO hP A n c fs x y w hn (by omega) hx hh.1 hr hy1 hy2
        · exact vfinds_yes hO hP A n c fs x y w hn (by omega) hx hh.1 hr hy1 hy2
    · exact vfinds_wrong hO hP A n c fs x y w hn (by omega) hx hh.1 (by simpa using h2)
  · exact vfinds_few hO hP A n c fs x y w hn hm hx (by simpa using hh)

end

end Go.Proofs.Ytmpfjkhboenfcaa.Avoid
