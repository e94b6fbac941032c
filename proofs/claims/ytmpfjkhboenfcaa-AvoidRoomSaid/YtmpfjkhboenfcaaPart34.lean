/- The law: in a narrower room never higher, as long as it fits; one that may stand lower only never higher. -/
import Derived.Test.YtmpfjkhboenfcaaPart25
namespace Go.Proofs.Ytmpfjkhboenfcaa.Avoid
open Go.RowKit Go.Sort Go.Proofs.Ytmpfjkhboenfcaa.Rect Go.Proofs.Ytmpfjkhboenfcaa.More Go.Proofs.Ytmpfjkhboenfcaa.Shelf Go.Proofs.Ytmpfjkhboenfcaa.Space Go.Proofs.Ytmpfjkhboenfcaa.Place
set_option linter.unusedVariables false
set_option linter.unusedSimpArgs false

section
variable {S : World → (Nat → Prop) → Addr → List Fl → Prop}

set_option maxRecDepth 100000 in
set_option maxHeartbeats 1000000 in
theorem vroom_few (hO : SpaceOk S) (hP : AvoidOk S) (A : Option Addr) (n c : Nat) (fs : List Fl) (x : Vt) (l : Int) (d : Int) (w : World) (hn : n = fs.length) (hlen : n ≤ 9223372036854775807) (hx : Floats w w.heap.size A fs) (hv : (fs.all near49 && decide ((n : Int) ≤ 30)) = false) :
    Calls Try.prog 7 #[.slice A n c, x.v, .int .u8 l, .int .u8 d] w fun e w' => e = .returned (.bool true) ∧ Below w.heap.size w w' := by
  have HBe := Lib.hid (fun w1 (k : Below w.heap.size w w1) => vbegin_no A n c fs 30 w1 hn hlen (hx.thru k) hv)
  clear hn hx hv
  go_enter Try.func7, Try.ntmps7
  go_upto_region 1 with fail
  generalize hW1 : World.alloc w _ = W
  obtain ⟨b0, hb0⟩ : ∃ b0, w.heap.size = b0 := ⟨_, rfl⟩
  have KW := Lib.hid (show Below w.heap.size w W by rw [← hW1]; exact ba1 _ _)
  have AW := Lib.hid (show AtV W b0 x by rw [← hW1, ← hb0]; exact atV_boxed _ _ _)
  rw [hb0]
  clear hW1 hb0
  go_upto_region 3 with (first
    | (go_at_call 9; refine (HBe.out _ KW.out).mono ?_; rintro e w2 ⟨rfl, k2⟩; have K2 := Lib.hid (thru KW.out k2); clear k2)
    | (go_at_call 10; refine (vspeaks hO hP _).mono ?_; rintro e w3 ⟨rfl, k3⟩; have K3 := Lib.hid (thru K2.out k3); clear k3))
  go_wp2_with (first
    | (go_at_call 10; refine (vspeaks hO hP _).mono ?_; rintro e w9 ⟨rfl, k9⟩; have K9 := Lib.hid (thru K3.out k9); clear k9))
  go_ret
  exact ⟨rfl, K9.out⟩

set_option maxRecDepth 100000 in
set_option maxHeartbeats 1000000 in
theorem vroom_wrong (hO : SpaceOk S) (hP : AvoidOk S) (A : Option Addr) (n c : Nat) (fs : List Fl) (x : Vt) (l : Int) (d : Int) (w : World) (hn : n = fs.length) (hlen : n ≤ 30) (hx : Floats w w.heap.size A fs) (h49 : fs.all near49 = true) (hr : rightV x = false) :
    Calls Try.prog 7 #[.slice A n c, x.v, .int .u8 l, .int .u8 d] w fun e w' => e = .returned (.bool true) ∧ Below w.heap.size w w' := by
  have HBe := Lib.hid (fun w1 (k : Below w.heap.size w w1) => vbegin_any hO A n c fs 30 w1 hn (by omega) (by omega) (hx.thru k) h49)
  have HRi := Lib.hid (fun w => vright_is x false hr w)
  clear hn hx h49
  go_enter Try.func7, Try.ntmps7
  go_upto_region 1 with fail
  generalize hW1 : World.alloc w _ = W
  obtain ⟨b0, hb0⟩ : ∃ b0, w.heap.size = b0 := ⟨_, rfl⟩
  have KW := Lib.hid (show Below w.heap.size w W by rw [← hW1]; exact ba1 _ _)
  have AW := Lib.hid (show AtV W b0 x by rw [← hW1, ← hb0]; exact atV_boxed _ _ _)
  rw [hb0]
  clear hW1 hb0
  go_upto_region 3 with (first
    | (go_at_call 9; refine (HBe.out _ KW.out).mono ?_; rintro e w2 ⟨⟨p, F, rfl, hL, hF⟩, k2⟩; have S2 := Lib.hid (⟨hL, thru KW.out k2, AW.out.below k2⟩ : S w2 F p fs ∧ Below w.heap.size w w2 ∧ AtV w2 b0 x); clear hL hF k2)
    | (go_at_call 10; refine (vspeaks hO hP _).mono ?_; rintro e w3 ⟨rfl, k3⟩; have S3 := Lib.hid (⟨thruS hO S2.out.1 k3, thru S2.out.2.1 k3, S2.out.2.2.below k3⟩ : S w3 F p fs ∧ Below w.heap.size w w3 ∧ AtV w3 b0 x); obtain ⟨c0, c1, c2, c3, c4⟩ := S3.out.2.2; clear k3)
    | (go_at_call 11; refine (HRi.out _).mono ?_; rintro e w4 ⟨rfl, k4⟩; have S4 := Lib.hid (⟨thruS hO S3.out.1 k4, thru S3.out.2.1 k4, S3.out.2.2.below k4⟩ : S w4 F p fs ∧ Below w.heap.size w w4 ∧ AtV w4 b0 x); clear k4))
  go_wp2_with (first
    | (go_at_call 10; refine (vspeaks hO hP _).mono ?_; rintro e w9 ⟨rfl, k9⟩; have K9 := Lib.hid (thru S4.out.2.1 k9); clear k9))
  go_ret
  exact ⟨rfl, K9.out⟩

set_option maxRecDepth 100000 in
set_option maxHeartbeats 1000000 in
theorem vroom_high (hO : SpaceOk S) (hP : AvoidOk S) (A : Option Addr) (n c : Nat) (fs : List Fl) (x : Vt) (l : Int) (d : Int) (w : World) (hn : n = fs.length) (hlen : n ≤ 30) (hx : Floats w w.heap.size A fs) (h49 : fs.all near49 = true) (hr : RightV x) (hy : 140737488355328 < x.y) :
    Calls Try.prog 7 #[.slice A n c, x.v, .int .u8 l, .int .u8 d] w fun e w' => e = .returned (.bool true) ∧ Below w.heap.size w w' := by
  have HBe := Lib.hid (fun w1 (k : Below w.heap.size w w1) => vbegin_any hO A n c fs 30 w1 hn (by omega) (by omega) (hx.thru k) h49)
  have HRi := Lib.hid (fun w => vright_is x true (rightV_iff.2 hr) w)
  clear hn hx h49
  go_enter Try.func7, Try.ntmps7
  go_upto_region 1 with fail
  generalize hW1 : World.alloc w _ = W
  obtain ⟨b0, hb0⟩ : ∃ b0, w.heap.size = b0 := ⟨_, rfl⟩
  have KW := Lib.hid (show Below w.heap.size w W by rw [← hW1]; exact ba1 _ _)
  have AW := Lib.hid (show AtV W b0 x by rw [← hW1, ← hb0]; exact atV_boxed _ _ _)
  rw [hb0]
  clear hW1 hb0
  go_upto_region 3 with (first
    | (go_at_call 9; refine (HBe.out _ KW.out).mono ?_; rintro e w2 ⟨⟨p, F, rfl, hL, hF⟩, k2⟩; have S2 := Lib.hid (⟨hL, thru KW.out k2, AW.out.below k2⟩ : S w2 F p fs ∧ Below w.heap.size w w2 ∧ AtV w2 b0 x); clear hL hF k2)
    | (go_at_call 10; refine (vspeaks hO hP _).mono ?_; rintro e w3 ⟨rfl, k3⟩; have S3 := Lib.hid (⟨thruS hO S2.out.1 k3, thru S2.out.2.1 k3, S2.out.2.2.below k3⟩ : S w3 F p fs ∧ Below w.heap.size w w3 ∧ AtV w3 b0 x); obtain ⟨c0, c1, c2, c3, c4⟩ := S3.out.2.2; clear k3)
    | (go_at_call 11; refine (HRi.out _).mono ?_; rintro e w4 ⟨rfl, k4⟩; have S4 := Lib.hid (⟨thruS hO S3.out.1 k4, thru S3.out.2.1 k4, S3.out.2.2.below k4⟩ : S w4 F p fs ∧ Below w.heap.size w w4 ∧ AtV w4 b0 x); clear c0 c1 c2 c3 c4; obtain ⟨c0, c1, c2, c3, c4⟩ := S4.out.2.2; clear k4))
  go_wp2_with (first
    | (go_at_call 10; refine (vspeaks hO hP _).mono ?_; rintro e w9 ⟨rfl, k9⟩; have K9 := Lib.hid (thru S4.out.2.1 k9); clear k9))
  go_ret
  exact ⟨rfl, K9.out⟩

set_option maxRecDepth 100000 in
set_option maxHeartbeats 1000000 in
theorem vroom_yes (hO : SpaceOk S) (hP : AvoidOk S) (A : Option Addr) (n c : Nat) (fs : List Fl) (x : Vt) (l : Int) (d : Int) (w : World) (hn : n = fs.length) (hlen : n ≤ 30) (hx : Floats w w.heap.size A fs) (h49 : fs.all near49 = true) (hr : RightV x) (hl : 0 ≤ l ∧ l ≤ 255) (hd : 0 ≤ d ∧ d ≤ 255) (hy1 : ¬ 140737488355328 < x.y) :
    Calls Try.prog 7 #[.slice A n c, x.v, .int .u8 l, .int .u8 d] w fun e w' => e = .returned (.bool true) ∧ Below w.heap.size w w' := by
  have HBe := Lib.hid (fun w1 (k : Below w.heap.size w w1) => vbegin_any hO A n c fs 30 w1 hn (by omega) (by omega) (hx.thru k) h49)
  have HRi := Lib.hid (fun w => vright_is x true (rightV_iff.2 hr) w)
  have hh0 := hr.wd1
  have hh1 := hr.wd2
  have hh2 := hr.y1
  have hh3 := hr.f1
  have hh4 := hr.t2
  have hh5 := hr.t1
  have hh6 := hr.f2
  have hrl : RightV { x with y := x.y + d } := ⟨hr.f1, hr.f2, hr.t1, hr.t2, hr.wd1, hr.wd2, hr.ht1, hr.ht2, show -281474976710656 ≤ x.y + d by omega, show x.y + d ≤ 281474976710656 by omega⟩
  have hrn : x.wd ≤ x.t - l - x.f → RightV { x with t := x.t - l } := fun hc => ⟨hr.f1, hr.f2, show -281474976710656 ≤ x.t - l by omega, show x.t - l ≤ 281474976710656 by omega, hr.wd1, hr.wd2, hr.ht1, hr.ht2, hr.y1, hr.y2⟩
  have HFa := Lib.hid (fun w1 F p (h : S w1 F p fs) => hP.find w1 F p fs x h h49 hr)
  have HFc := Lib.hid (fun w1 F p (h : S w1 F p fs) => hP.find w1 F p fs { x with y := x.y + d } h h49 hrl)
  have HFn := Lib.hid (fun (hc : x.wd ≤ x.t - l - x.f) w1 F p (h : S w1 F p fs) => hP.find w1 F p fs { x with t := x.t - l } h h49 (hrn hc))
  have hge := avoid_low h49 hr hrl (show x.y ≤ x.y + d by omega)
  have hle : x.wd ≤ x.t - l - x.f → findVY fs x ≤ findVY fs { x with t := x.t - l } := fun hc => avoid_room h49 hr (hrn hc) (by omega) (by omega)
  unfold boxV at HFa HFc HFn
  generalize findVX fs x = xa at *
  generalize findVX fs { x with y := x.y + d } = xc at *
  generalize findVX fs { x with t := x.t - l } = xn at *
  generalize findVY fs x = ya at *
  generalize findVY fs { x with y := x.y + d } = yc at *
  generalize findVY fs { x with t := x.t - l } = yn at *
  obtain ⟨ra, hra⟩ : ∃ ra, xa + x.wd = ra := ⟨_, rfl⟩
  obtain ⟨rc, hrc⟩ : ∃ rc, xc + x.wd = rc := ⟨_, rfl⟩
  obtain ⟨rn, hrnn⟩ : ∃ rn, xn + x.wd = rn := ⟨_, rfl⟩
  obtain ⟨ba, hba⟩ : ∃ ba, ya + x.ht = ba := ⟨_, rfl⟩
  obtain ⟨bc, hbc⟩ : ∃ bc, yc + x.ht = bc := ⟨_, rfl⟩
  obtain ⟨bn, hbn⟩ : ∃ bn, yn + x.ht = bn := ⟨_, rfl⟩
  replace HFa : Hid (∀ w1 F p, S w1 F p fs → Calls Try.prog 15 #[.pointer (some p), x.v] w1 fun r w' => r = .returned (.agg #[.int .i64 xa, .int .i64 ya, .int .i64 ra, .int .i64 ba]) ∧ Below w1.heap.size w1 w') := Lib.hid (fun w1 F p h => by rw [← hra, ← hba]; exact HFa.out w1 F p h)
  replace HFc : Hid (∀ w1 F p, S w1 F p fs → Calls Try.prog 15 #[.pointer (some p), Vt.v { x with y := x.y + d }] w1 fun r w' => r = .returned (.agg #[.int .i64 xc, .int .i64 yc, .int .i64 rc, .int .i64 bc]) ∧ Below w1.heap.size w1 w') := Lib.hid (fun w1 F p h => by rw [← hrc, ← hbc]; exact HFc.out w1 F p h)
  replace HFn : Hid (∀ (_ : x.wd ≤ x.t - l - x.f) w1 F p, S w1 F p fs → Calls Try.prog 15 #[.pointer (some p), Vt.v { x with t := x.t - l }] w1 fun r w' => r = .returned (.agg #[.int .i64 xn, .int .i64 yn, .int .i64 rn, .int .i64 bn]) ∧ Below w1.heap.size w1 w') := Lib.hid (fun hc w1 F p h => by rw [← hrnn, ← hbn]; exact HFn.out hc w1 F p h)
  have hw0 : IntKind.i64.wrap l = l := IntWalk.i64_in _ (by omega)
  have hw1 : IntKind.i64.wrap d = d := IntWalk.i64_in _ (by omega)
  have hw2 : IntKind.i64.wrap (x.t - l) = x.t - l := IntWalk.i64_in _ (by omega)
  have hw3 : IntKind.i64.wrap (x.y + d) = x.y + d := IntWalk.i64_in _ (by omega)
  have hw4 : IntKind.i64.wrap (x.t - l - x.f) = x.t - l - x.f := IntWalk.i64_in _ (by omega)
  have HW := Lib.hid (⟨hw0, hw1, hw2, hw3, hw4⟩ : IntKind.i64.wrap l = l ∧ IntKind.i64.wrap d = d ∧ IntKind.i64.wrap (x.t - l) = x.t - l ∧ IntKind.i64.wrap (x.y + d) = x.y + d ∧ IntKind.i64.wrap (x.t - l - x.f) = x.t - l - x.f)
  have HLE := Lib.hid (⟨hge, hle⟩ : ya ≤ yc ∧ (x.wd ≤ x.t - l - x.f → ya ≤ yn))
  clear hn hx h49 hr hh0 hh1 hh2 hh3 hh4 hh5 hh6 hrl hrn hw0 hw1 hw2 hw3 hw4 hl hd hra hrc hrnn hba hbc hbn hge hle
  go_enter Try.func7, Try.ntmps7
  go_upto_region 1 with fail
  generalize hW1 : World.alloc w _ = W
  obtain ⟨b0, hb0⟩ : ∃ b0, w.heap.size = b0 := ⟨_, rfl⟩
  have KW := Lib.hid (show Below w.heap.size w W by rw [← hW1]; exact ba1 _ _)
  have AW := Lib.hid (show AtV W b0 x by rw [← hW1, ← hb0]; exact atV_boxed _ _ _)
  rw [hb0]
  clear hW1 hb0
  go_upto_region 4 with (first
    | (go_at_call 9; refine (HBe.out _ KW.out).mono ?_; rintro e w2 ⟨⟨p, F, rfl, hL, hF⟩, k2⟩; have S2 := Lib.hid (⟨hL, thru KW.out k2, AW.out.below k2⟩ : S w2 F p fs ∧ Below w.heap.size w w2 ∧ AtV w2 b0 x); clear hL hF k2)
    | (go_at_call 10; refine (vspeaks hO hP _).mono ?_; rintro e w3 ⟨rfl, k3⟩; have S3 := Lib.hid (⟨thruS hO S2.out.1 k3, thru S2.out.2.1 k3, S2.out.2.2.below k3⟩ : S w3 F p fs ∧ Below w.heap.size w w3 ∧ AtV w3 b0 x); obtain ⟨c0, c1, c2, c3, c4⟩ := S3.out.2.2; clear k3)
    | (go_at_call 11; refine (HRi.out _).mono ?_; rintro e w4 ⟨rfl, k4⟩; have S4 := Lib.hid (⟨thruS hO S3.out.1 k4, thru S3.out.2.1 k4, S3.out.2.2.below k4⟩ : S w4 F p fs ∧ Below w.heap.size w w4 ∧ AtV w4 b0 x); clear c0 c1 c2 c3 c4; obtain ⟨c0, c1, c2, c3, c4⟩ := S4.out.2.2; clear k4))
  clear c0 c1 c2 c3 c4
  obtain ⟨c0, c1, c2, c3, c4⟩ := S4.out.2.2
  go_upto_region 5 with fail
  clear c0 c1 c2 c3 c4
  generalize hW5 : World.alloc w4 _ = W5
  obtain ⟨b1, hb1⟩ : ∃ b1, w4.heap.size = b1 := ⟨_, rfl⟩
  have k5 : Below w4.heap.size w4 W5 := by rw [← hW5]; exact ba1 _ _
  have p5 : Wv 24 W5 b1 x := by rw [← hW5, ← hb1]; exact heap_alloc_new w4 _
  have S5 := Lib.hid (⟨k5, p5, by omega⟩ : Below w4.heap.size w4 W5 ∧ Wv 24 W5 b1 x ∧ w4.heap.size ≤ b1)
  rw [hb1]
  clear hW5 hb1 k5 p5
  obtain ⟨-, -, -, -, d4⟩ := S5.out.2.1.at'
  obtain ⟨-, -, -, -, f4⟩ := S5.out.2.1.free
  obtain ⟨hw0, hw1, hw2, hw3, hw4⟩ := HW.out
  go_upto_region 6 with fail
  clear d4 f4 hw0 hw1 hw2 hw3 hw4
  have kV := S5.out.1.setCell (p := ⟨b1, 4, none⟩) S5.out.2.2 (.int .i64 (x.y + d))
  have v3 := S5.out.2.1.set4 (x.y + d)
  generalize hV : W5.setCell ⟨b1, 4, none⟩ (.int .i64 (x.y + d)) = V at *
  have SV := Lib.hid (⟨thruS hO S4.out.1 kV, thru S4.out.2.1 kV, S4.out.2.2.below kV, v3⟩ : S V F p fs ∧ Below w.heap.size w V ∧ AtV V b0 x ∧ Wv 24 V b1 { x with y := x.y + d })
  clear hV kV v3
  have HS := Lib.hid (fun (st : Nat) w' G (j : Draw.quiet V st w' G) => thruS hO SV.out.1 j.1)
  have HA := Lib.hid (fun (st : Nat) w' G (j : Draw.quiet V st w' G) => SV.out.2.2.1.below j.1)
  have HB3 := Lib.hid (fun (st : Nat) w' G (j : Draw.quiet V st w' G) => (SV.out.2.2.2.below j.1).at')
  refine Draw.wp_region_drawn (Draw.quiet V) 0 [.val (.pointer (some p)), .val ((Vt.v x)), .val ((Vt.v x)), .val (.agg #[.int .i64 xa, .int .i64 ya, .int .i64 ra, .int .i64 ba]), .val (.pointer (some p)), .val ((Vt.v { x with y := x.y + d })), .val ((Vt.v { x with y := x.y + d })), .val (.agg #[.int .i64 xc, .int .i64 yc, .int .i64 rc, .int .i64 bc]), .box (.cells #[.int .i64 0, .int .i64 0, .int .i64 0, .int .i64 0] 38), .box (.cells #[.int .i64 0, .int .i64 0, .int .i64 0, .int .i64 0] 38), .put 8 (.cells #[.int .i64 xa, .int .i64 ya, .int .i64 ra, .int .i64 ba] 38), .put 9 (.cells #[.int .i64 xc, .int .i64 yc, .int .i64 rc, .int .i64 bc] 38)] (by kernel_rfl) (by kernel_rfl) (by kernel_rfl) (Draw.quiet_kept V) (Draw.quiet_start V) ?_ ?_
  · simp only [Draw.fill, Draw.Leave.value]
    refine ⟨?_, ?_, ?_, ?_, ?_, ?_, ?_, ?_, ?_, ?_, ?_, ?_, trivial⟩
    · intro st gg w' G hw hk
      go_simp
      exact ⟨rfl, rfl⟩
    · intro st gg w' G hw hk
      have q0 := (HA.out st w' G hw).1
      have q1 := (HA.out st w' G hw).2.1
      have q2 := (HA.out st w' G hw).2.2.1
      have q3 := (HA.out st w' G hw).2.2.2.1
      have q4 := (HA.out st w' G hw).2.2.2.2
      go_simp
      exact ⟨rfl, rfl⟩
    · intro st gg w' G hw hk
      go_simp
      exact Draw.stays_call (vwantOf_any x w')
    · intro st gg w' G hw hk
      go_simp
      exact Draw.stays_call (HFa.out w' _ _ (HS.out st w' G hw))
    · intro st gg w' G hw hk
      go_simp
      exact ⟨rfl, rfl⟩
    · intro st gg w' G hw hk
      have q0 := (HB3.out st w' G hw).1
      have q1 := (HB3.out st w' G hw).2.1
      have q2 := (HB3.out st w' G hw).2.2.1
      have q3 := (HB3.out st w' G hw).2.2.2.1
      have q4 := (HB3.out st w' G hw).2.2.2.2
      go_simp
      exact ⟨rfl, rfl⟩
    · intro st gg w' G hw hk
      go_simp
      exact Draw.stays_call (vwantOf_any { x with y := x.y + d } w')
    · intro st gg w' G hw hk
      go_simp
      exact Draw.stays_call (HFc.out w' _ _ (HS.out st w' G hw))
    · intro st gg w' G hw hk
      go_simp
    · intro st gg w' G hw hk
      go_simp
    · intro st gg w' G hw y b hy hob hb
      obtain rfl : Draw.Leave.box _ = y := Option.some.inj hy
      obtain rfl : _ = b := Option.some.inj hob
      obtain ⟨r0, r1, r2, r3⟩ := R4.of_block hb
      obtain ⟨f0, f1, f2, f3⟩ := free4 hb
      refine ⟨_, ?_, only_put4 _ 0 0 0 0 xa ya ra ba hb⟩
      clear hb
      go_simp
      rfl
    · intro st gg w' G hw y b hy hob hb
      obtain rfl : Draw.Leave.box _ = y := Option.some.inj hy
      obtain rfl : _ = b := Option.some.inj hob
      obtain ⟨r0, r1, r2, r3⟩ := R4.of_block hb
      obtain ⟨f0, f1, f2, f3⟩ := free4 hb
      refine ⟨_, ?_, only_put4 _ 0 0 0 0 xc yc rc bc hb⟩
      clear hb
      go_simp
      rfl
  intro gg w6 G6 k6 hbox hput hap
  have p8 : R4 w6 (gg 8) xa ya ra ba := R4.of_block (hput 10 8 _ rfl)
  have p9 : R4 w6 (gg 9) xc yc rc bc := R4.of_block (hput 11 9 _ rfl)
  simp only [Draw.fill, Draw.Leave.value]
  go_simp
  generalize gg 8 = b8 at *
  generalize gg 9 = b9 at *
  have S6 := Lib.hid (⟨thruS hO SV.out.1 k6.1, thru SV.out.2.1 k6.1, SV.out.2.2.1.below k6.1, p8, p9⟩ : S w6 F p fs ∧ Below w.heap.size w w6 ∧ AtV w6 b0 x ∧ R4 w6 b8 xa ya ra ba ∧ R4 w6 b9 xc yc rc bc)
  clear hbox hput hap k6 HS HA HB3 SV HFa HFc p8 p9 S4 S5
  obtain ⟨-, a1, -, -⟩ := S6.out.2.2.2.1
  obtain ⟨-, d1, -, -⟩ := S6.out.2.2.2.2
  have hge : ¬ yc < ya := by have := HLE.out.1; omega
  go_upto_region 9 with fail
  clear a1 d1 hge
  obtain ⟨c0, c1, c2, c3, c4⟩ := S6.out.2.2.1
  go_upto_region 10 with fail
  clear c0 c1 c2 c3 c4
  generalize hW7 : World.alloc w6 _ = W7
  obtain ⟨b2, hb2⟩ : ∃ b2, w6.heap.size = b2 := ⟨_, rfl⟩
  have k7 : Below w6.heap.size w6 W7 := by rw [← hW7]; exact ba1 _ _
  have p7 : Wv 24 W7 b2 x := by rw [← hW7, ← hb2]; exact heap_alloc_new w6 _
  have S7 := Lib.hid (⟨k7, p7, by omega⟩ : Below w6.heap.size w6 W7 ∧ Wv 24 W7 b2 x ∧ w6.heap.size ≤ b2)
  rw [hb2]
  clear hW7 hb2 k7 p7
  obtain ⟨-, d4, -, -, -⟩ := S7.out.2.1.at'
  obtain ⟨-, f4, -, -, -⟩ := S7.out.2.1.free
  obtain ⟨hw0, hw1, hw2, hw3, hw4⟩ := HW.out
  go_upto_region 11 with fail
  clear d4 f4 hw0 hw1 hw2 hw3
  have kU := S7.out.1.setCell (p := ⟨b2, 1, none⟩) S7.out.2.2 (.int .i64 (x.t - l))
  have v3 := S7.out.2.1.set1 (x.t - l)
  generalize hU : W7.setCell ⟨b2, 1, none⟩ (.int .i64 (x.t - l)) = U at *
  have SU := Lib.hid (⟨thruS hO S6.out.1 kU, thru S6.out.2.1 kU, S6.out.2.2.1.below kU, v3, S6.out.2.2.2.1.below kU⟩ : S U F p fs ∧ Below w.heap.size w U ∧ AtV U b0 x ∧ Wv 24 U b2 { x with t := x.t - l } ∧ R4 U b8 xa ya ra ba)
  clear hU kU v3 S7 S6
  obtain ⟨c0, c1, c2, c3, c4⟩ := SU.out.2.2.1
  obtain ⟨d0, d1, d2, d3, d4⟩ := SU.out.2.2.2.1.at'
  by_cases hc : x.t - l - x.f < x.wd
  · go_wp2_with fail
    go_ret
    exact ⟨rfl, SU.out.2.1⟩
  have hle := HLE.out.2 (by omega)
  have HFx := Lib.hid (HFn.out (by omega))
  go_upto_region 13 with fail
  clear c0 c1 c2 c3 c4 d0 d1 d2 d3 d4 hw4 hc HFn HLE
  have HA := Lib.hid (fun w' (j : Below U.heap.size U w') => (SU.out.2.2.2.1.below j).at')
  have HS := Lib.hid (fun w' (j : Below U.heap.size U w') => thruS hO SU.out.1 j)
  have HR := Lib.hid (fun w' (j : Below U.heap.size U w') => SU.out.2.2.2.2.below j)
  refine Hold.wp_region_hold [.val (.pointer (some p)), .val ((Vt.v { x with t := x.t - l })), .val ((Vt.v { x with t := x.t - l })), .val (.agg #[.int .i64 xn, .int .i64 yn, .int .i64 rn, .int .i64 bn]), .val (.int .i64 yn), .val (.pointer (some ⟨b8, 1, none⟩)), .val (.int .i64 ya), .val (.bool true)] (by kernel_rfl) (by kernel_rfl) (by kernel_rfl) ?_ ?_
  · simp only [Hold.fill, Hold.Leave.value]
    refine ⟨?_, ?_, ?_, ?_, ?_, ?_, ?_, ?_, trivial⟩
    · intro gg w' hw hk
      go_simp
      exact ⟨rfl, rfl⟩
    · intro gg w' hw hk
      have q0 := (HA.out w' hw).1
      have q1 := (HA.out w' hw).2.1
      have q2 := (HA.out w' hw).2.2.1
      have q3 := (HA.out w' hw).2.2.2.1
      have q4 := (HA.out w' hw).2.2.2.2
      go_simp
      exact ⟨rfl, rfl⟩
    · intro gg w' hw hk
      go_simp
      exact Hold.stays_call (vwantOf_any { x with t := x.t - l } w')
    · intro gg w' hw hk
      go_simp
      exact Hold.stays_call (HFx.out w' _ _ (HS.out w' hw))
    · intro gg w' hw hk
      go_simp
      exact ⟨rfl, rfl⟩
    · intro gg w' hw hk
      go_simp
      exact ⟨rfl, rfl⟩
    · intro gg w' hw hk
      have q := (HR.out w' hw).2.1
      go_simp
      exact ⟨rfl, rfl⟩
    · intro gg w' hw hk
      have q := hle
      go_simp
      exact ⟨rfl, rfl⟩
  intro gg w8 k8 hgg
  clear hgg
  simp only [Hold.fill, Hold.Leave.value, List.length_cons, List.length_nil, List.drop_succ_cons, List.drop_zero]
  have K8 := Lib.hid (thru SU.out.2.1 k8)
  clear k8
  go_simp
  go_wp2_with fail
  go_ret
  exact ⟨rfl, K8.out⟩

theorem vroom_any (hO : SpaceOk S) (hP : AvoidOk S) (A : Option Addr) (n c : Nat) (fs : List Fl) (x : Vt) (l : Int) (d : Int) (w : World) (hn : n = fs.length) (hm : n ≤ 9223372036854775807) (hx : Floats w w.heap.size A fs) (hl : 0 ≤ l ∧ l ≤ 255) (hd : 0 ≤ d ∧ d ≤ 255) :
    Calls Try.prog 7 #[.slice A n c, x.v, .int .u8 l, .int .u8 d] w fun e w' => e = .returned (.bool true) ∧ Below w.heap.size w w' := by
  by_cases hh : (fs.all near49 && decide ((n : Int) ≤ 30)) = true
  · simp only [Bool.and_eq_true, decide_eq_true_eq] at hh
    by_cases h2 : rightV x = true
    · have hr := rightV_iff.1 h2
      by_cases hy : 140737488355328 < x.y
      · exact vroom_high hO hP A n c fs x l d w hn (by omega) hx hh.1 hr hy
      · exact vroom_yes hO hP A n c fs x l d w hn (by omega) hx hh.1 hr hl hd hy
    · exact vroom_wrong hO hP A n c fs x l d w hn (by omega) hx hh.1 (by simpa using h2)
  · exact vroom_few hO hP A n c fs x l d w hn hm hx (by simpa using hh)

end

end Go.Proofs.Ytmpfjkhboenfcaa.Avoid
