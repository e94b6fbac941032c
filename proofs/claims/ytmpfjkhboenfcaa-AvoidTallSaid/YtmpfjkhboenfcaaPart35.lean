/- The law: a taller box never stands higher; one without a height stands where one of one row does. -/
import Derived.Test.YtmpfjkhboenfcaaPart25
namespace Go.Proofs.Ytmpfjkhboenfcaa.Avoid
open Go.RowKit Go.Sort Go.Proofs.Ytmpfjkhboenfcaa.Rect Go.Proofs.Ytmpfjkhboenfcaa.More Go.Proofs.Ytmpfjkhboenfcaa.Shelf Go.Proofs.Ytmpfjkhboenfcaa.Space Go.Proofs.Ytmpfjkhboenfcaa.Place
set_option linter.unusedVariables false
set_option linter.unusedSimpArgs false

section
variable {S : World → (Nat → Prop) → Addr → List Fl → Prop}

theorem flatV_y (fs : List Fl) (x : Vt) : findVY fs { x with ht := 0 } = findVY fs { x with ht := 1 } := rfl
theorem flatV_x (fs : List Fl) (x : Vt) : findVX fs { x with ht := 0 } = findVX fs { x with ht := 1 } := rfl

set_option maxRecDepth 100000 in
set_option maxHeartbeats 1000000 in
theorem vtall_few (hO : SpaceOk S) (hP : AvoidOk S) (A : Option Addr) (n c : Nat) (fs : List Fl) (x : Vt) (m : Int) (w : World) (hn : n = fs.length) (hlen : n ≤ 9223372036854775807) (hx : Floats w w.heap.size A fs) (hv : (fs.all near49 && decide ((n : Int) ≤ 30)) = false) :
    Calls Try.prog 8 #[.slice A n c, x.v, .int .u8 m] w fun e w' => e = .returned (.bool true) ∧ Below w.heap.size w w' := by
  have HBe := Lib.hid (fun w1 (k : Below w.heap.size w w1) => vbegin_no A n c fs 30 w1 hn hlen (hx.thru k) hv)
  clear hn hx hv
  go_enter Try.func8, Try.ntmps8
  go_upto_region 1 with fail
  generalize hW1 : World.alloc w _ = W
  obtain ⟨b0, hb0⟩ : ∃ b0, w.heap.size = b0 := ⟨_, rfl⟩
  have KW := Lib.hid (show Below w.heap.size w W by rw [← hW1]; exact ba1 _ _)
  have AW := Lib.hid (show AtV W b0 x by rw [← hW1, ← hb0]; exact atV_boxed _ _ _)
  rw [hb0]
  clear hW1 hb0
  go_upto_region 3 with (first
    | (go_at_call 9; refine (HBe.out _ KW.out).mono ?_; rintro e w2 ⟨rfl, k2⟩; have K2 := Lib.hid (thru KW.out k2); clear k2)
    | (go_at_call 10; refine (vspeaks hO hP _).mono ?_; rintro e w3 ⟨rfl, k3⟩; have K3 := Lib.hid (thru K2.out k3); clear k3))
  go_wp2_with (first
    | (go_at_call 10; refine (vspeaks hO hP _).mono ?_; rintro e w9 ⟨rfl, k9⟩; have K9 := Lib.hid (thru K3.out k9); clear k9))
  go_ret
  exact ⟨rfl, K9.out⟩

set_option maxRecDepth 100000 in
set_option maxHeartbeats 1000000 in
theorem vtall_wrong (hO : SpaceOk S) (hP : AvoidOk S) (A : Option Addr) (n c : Nat) (fs : List Fl) (x : Vt) (m : Int) (w : World) (hn : n = fs.length) (hlen : n ≤ 30) (hx : Floats w w.heap.size A fs) (h49 : fs.all near49 = true) (hr : rightV x = false) :
    Calls Try.prog 8 #[.slice A n c, x.v, .int .u8 m] w fun e w' => e = .returned (.bool true) ∧ Below w.heap.size w w' := by
  have HBe := Lib.hid (fun w1 (k : Below w.heap.size w w1) => vbegin_any hO A n c fs 30 w1 hn (by omega) (by omega) (hx.thru k) h49)
  have HRi := Lib.hid (fun w => vright_is x false hr w)
  clear hn hx h49
  go_enter Try.func8, Try.ntmps8
  go_upto_region 1 with fail
  generalize hW1 : World.alloc w _ = W
  obtain ⟨b0, hb0⟩ : ∃ b0, w.heap.size = b0 := ⟨_, rfl⟩
  have KW := Lib.hid (show Below w.heap.size w W by rw [← hW1]; exact ba1 _ _)
  have AW := Lib.hid (show AtV W b0 x by rw [← hW1, ← hb0]; exact atV_boxed _ _ _)
  rw [hb0]
  clear hW1 hb0
  go_upto_region 3 with (first
    | (go_at_call 9; refine (HBe.out _ KW.out).mono ?_; rintro e w2 ⟨⟨p, F, rfl, hL, hF⟩, k2⟩; have S2 := Lib.hid (⟨hL, thru KW.out k2, AW.out.below k2⟩ : S w2 F p fs ∧ Below w.heap.size w w2 ∧ AtV w2 b0 x); clear hL hF k2)
    | (go_at_call 10; refine (vspeaks hO hP _).mono ?_; rintro e w3 ⟨rfl, k3⟩; have S3 := Lib.hid (⟨thruS hO S2.out.1 k3, thru S2.out.2.1 k3, S2.out.2.2.below k3⟩ : S w3 F p fs ∧ Below w.heap.size w w3 ∧ AtV w3 b0 x); obtain ⟨c0, c1, c2, c3, c4⟩ := S3.out.2.2; clear k3)
    | (go_at_call 11; refine (HRi.out _).mono ?_; rintro e w4 ⟨rfl, k4⟩; have S4 := Lib.hid (⟨thruS hO S3.out.1 k4, thru S3.out.2.1 k4, S3.out.2.2.below k4⟩ : S w4 F p fs ∧ Below w.heap.size w w4 ∧ AtV w4 b0 x); clear k4))
  go_wp2_with (first
    | (go_at_call 10; refine (vspeaks hO hP _).mono ?_; rintro e w9 ⟨rfl, k9⟩; have K9 := Lib.hid (thru S4.out.2.1 k9); clear k9))
  go_ret
  exact ⟨rfl, K9.out⟩

set_option maxRecDepth 100000 in
set_option maxHeartbeats 1000000 in
theorem vtall_high (hO : SpaceOk S) (hP : AvoidOk S) (A : Option Addr) (n c : Nat) (fs : List Fl) (x : Vt) (m : Int) (w : World) (hn : n = fs.length) (hlen : n ≤ 30) (hx : Floats w w.heap.size A fs) (h49 : fs.all near49 = true) (hr : RightV x) (hy : 140737488355328 < x.ht) :
    Calls Try.prog 8 #[.slice A n c, x.v, .int .u8 m] w fun e w' => e = .returned (.bool true) ∧ Below w.heap.size w w' := by
  have HBe := Lib.hid (fun w1 (k : Below w.heap.size w w1) => vbegin_any hO A n c fs 30 w1 hn (by omega) (by omega) (hx.thru k) h49)
  have HRi := Lib.hid (fun w => vright_is x true (rightV_iff.2 hr) w)
  clear hn hx h49
  go_enter Try.func8, Try.ntmps8
  go_upto_region 1 with fail
  generalize hW1 : World.alloc w _ = W
  obtain ⟨b0, hb0⟩ : ∃ b0, w.heap.size = b0 := ⟨_, rfl⟩
  have KW := Lib.hid (show Below w.heap.size w W by rw [← hW1]; exact ba1 _ _)
  have AW := Lib.hid (show AtV W b0 x by rw [← hW1, ← hb0]; exact atV_boxed _ _ _)
  rw [hb0]
  clear hW1 hb0
  go_upto_region 3 with (first
    | (go_at_call 9; refine (HBe.out _ KW.out).mono ?_; rintro e w2 ⟨⟨p, F, rfl, hL, hF⟩, k2⟩; have S2 := Lib.hid (⟨hL, thru KW.out k2, AW.out.below k2⟩ : S w2 F p fs ∧ Below w.heap.size w w2 ∧ AtV w2 b0 x); clear hL hF k2)
    | (go_at_call 10; refine (vspeaks hO hP _).mono ?_; rintro e w3 ⟨rfl, k3⟩; have S3 := Lib.hid (⟨thruS hO S2.out.1 k3, thru S2.out.2.1 k3, S2.out.2.2.below k3⟩ : S w3 F p fs ∧ Below w.heap.size w w3 ∧ AtV w3 b0 x); obtain ⟨c0, c1, c2, c3, c4⟩ := S3.out.2.2; clear k3)
    | (go_at_call 11; refine (HRi.out _).mono ?_; rintro e w4 ⟨rfl, k4⟩; have S4 := Lib.hid (⟨thruS hO S3.out.1 k4, thru S3.out.2.1 k4, S3.out.2.2.below k4⟩ : S w4 F p fs ∧ Below w.heap.size w w4 ∧ AtV w4 b0 x); clear c0 c1 c2 c3 c4; obtain ⟨c0, c1, c2, c3, c4⟩ := S4.out.2.2; clear k4))
  go_wp2_with (first
    | (go_at_call 10; refine (vspeaks hO hP _).mono ?_; rintro e w9 ⟨rfl, k9⟩; have K9 := Lib.hid (thru S4.out.2.1 k9); clear k9))
  go_ret
  exact ⟨rfl, K9.out⟩

set_option maxRecDepth 100000 in
set_option maxHeartbeats 1000000 in
theorem vtall_yes (hO : SpaceOk S) (hP : AvoidOk S) (A : Option Addr) (n c : Nat) (fs : List Fl) (x : Vt) (m : Int) (w : World) (hn : n = fs.length) (hlen : n ≤ 30) (hx : Floats w w.heap.size A fs) (h49 : fs.all near49 = true) (hr : RightV x) (hm : 0 ≤ m ∧ m ≤ 255) (hy2 : ¬ 140737488355328 < x.ht) :
    Calls Try.prog 8 #[.slice A n c, x.v, .int .u8 m] w fun e w' => e = .returned (.bool true) ∧ Below w.heap.size w w' := by
  have HBe := Lib.hid (fun w1 (k : Below w.heap.size w w1) => vbegin_any hO A n c fs 30 w1 hn (by omega) (by omega) (hx.thru k) h49)
  have HRi := Lib.hid (fun w => vright_is x true (rightV_iff.2 hr) w)
  have hh2 := hr.ht2
  have hh1 := hr.ht1
  have hrt : RightV { x with ht := x.ht + m } := ⟨hr.f1, hr.f2, hr.t1, hr.t2, hr.wd1, hr.wd2, show -281474976710656 ≤ x.ht + m by omega, show x.ht + m ≤ 281474976710656 by omega, hr.y1, hr.y2⟩
  have hr0 : RightV { x with ht := 0 } := ⟨hr.f1, hr.f2, hr.t1, hr.t2, hr.wd1, hr.wd2, show (-281474976710656 : Int) ≤ 0 by decide, show (0 : Int) ≤ 281474976710656 by decide, hr.y1, hr.y2⟩
  have hr1 : RightV { x with ht := 1 } := ⟨hr.f1, hr.f2, hr.t1, hr.t2, hr.wd1, hr.wd2, show (-281474976710656 : Int) ≤ 1 by decide, show (1 : Int) ≤ 281474976710656 by decide, hr.y1, hr.y2⟩
  have HFa := Lib.hid (fun w1 F p (h : S w1 F p fs) => hP.find w1 F p fs x h h49 hr)
  have HFb := Lib.hid (fun w1 F p (h : S w1 F p fs) => hP.find w1 F p fs { x with ht := x.ht + m } h h49 hrt)
  have HFc := Lib.hid (fun w1 F p (h : S w1 F p fs) => hP.find w1 F p fs { x with ht := 0 } h h49 hr0)
  have HFd := Lib.hid (fun w1 F p (h : S w1 F p fs) => hP.find w1 F p fs { x with ht := 1 } h h49 hr1)
  have hle := avoid_tall h49 hr hrt (show x.ht ≤ x.ht + m by omega)
  unfold boxV at HFa HFb HFc HFd
  rw [flatV_y, flatV_x] at HFc
  have hw0 : IntKind.i64.wrap m = m := IntWalk.i64_in _ (by omega)
  have hw1 : IntKind.i64.wrap (x.ht + m) = x.ht + m := IntWalk.i64_in _ (by omega)
  have HW := Lib.hid (⟨hw0, hw1⟩ : IntKind.i64.wrap m = m ∧ IntKind.i64.wrap (x.ht + m) = x.ht + m)
  generalize findVX fs x = fx at HFa
  generalize findVY fs x = fy at HFa hle
  generalize findVX fs { x with ht := x.ht + m } = sx at HFb
  generalize findVY fs { x with ht := x.ht + m } = sy at HFb hle
  generalize findVX fs { x with ht := 1 } = tx at HFc HFd
  generalize findVY fs { x with ht := 1 } = ty at HFc HFd
  have HLE := Lib.hid hle
  obtain ⟨fr, hfr⟩ : ∃ fr, fx + x.wd = fr := ⟨_, rfl⟩
  obtain ⟨ga, hga⟩ : ∃ ga, fy + x.ht = ga := ⟨_, rfl⟩
  obtain ⟨sr, hsr⟩ : ∃ sr, sx + x.wd = sr := ⟨_, rfl⟩
  obtain ⟨gb, hgb⟩ : ∃ gb, sy + (x.ht + m) = gb := ⟨_, rfl⟩
  obtain ⟨tr, htr⟩ : ∃ tr, tx + x.wd = tr := ⟨_, rfl⟩
  obtain ⟨gc, hgc⟩ : ∃ gc, ty + 0 = gc := ⟨_, rfl⟩
  obtain ⟨gd, hgd⟩ : ∃ gd, ty + 1 = gd := ⟨_, rfl⟩
  replace HFa : Hid (∀ w1 F p, S w1 F p fs → Calls Try.prog 15 #[.pointer (some p), x.v] w1 fun r w' => r = .returned (.agg #[.int .i64 fx, .int .i64 fy, .int .i64 fr, .int .i64 ga]) ∧ Below w1.heap.size w1 w') := Lib.hid (fun w1 F p h => by rw [← hfr, ← hga]; exact HFa.out w1 F p h)
  replace HFb : Hid (∀ w1 F p, S w1 F p fs → Calls Try.prog 15 #[.pointer (some p), Vt.v { x with ht := x.ht + m }] w1 fun r w' => r = .returned (.agg #[.int .i64 sx, .int .i64 sy, .int .i64 sr, .int .i64 gb]) ∧ Below w1.heap.size w1 w') := Lib.hid (fun w1 F p h => by rw [← hsr, ← hgb]; exact HFb.out w1 F p h)
  replace HFc : Hid (∀ w1 F p, S w1 F p fs → Calls Try.prog 15 #[.pointer (some p), Vt.v { x with ht := 0 }] w1 fun r w' => r = .returned (.agg #[.int .i64 tx, .int .i64 ty, .int .i64 tr, .int .i64 gc]) ∧ Below w1.heap.size w1 w') := Lib.hid (fun w1 F p h => by rw [← htr, ← hgc]; exact HFc.out w1 F p h)
  replace HFd : Hid (∀ w1 F p, S w1 F p fs → Calls Try.prog 15 #[.pointer (some p), Vt.v { x with ht := 1 }] w1 fun r w' => r = .returned (.agg #[.int .i64 tx, .int .i64 ty, .int .i64 tr, .int .i64 gd]) ∧ Below w1.heap.size w1 w') := Lib.hid (fun w1 F p h => by rw [← htr, ← hgd]; exact HFd.out w1 F p h)
  clear hn hx h49 hr hh1 hh2 hrt hr0 hr1 hw0 hw1 hm hle hfr hga hsr hgb htr hgc hgd
  go_enter Try.func8, Try.ntmps8
  go_upto_region 1 with fail
  generalize hW1 : World.alloc w _ = W
  obtain ⟨b0, hb0⟩ : ∃ b0, w.heap.size = b0 := ⟨_, rfl⟩
  have KW := Lib.hid (show Below w.heap.size w W by rw [← hW1]; exact ba1 _ _)
  have AW := Lib.hid (show AtV W b0 x by rw [← hW1, ← hb0]; exact atV_boxed _ _ _)
  rw [hb0]
  clear hW1 hb0
  go_upto_region 4 with (first
    | (go_at_call 9; refine (HBe.out _ KW.out).mono ?_; rintro e w2 ⟨⟨p, F, rfl, hL, hF⟩, k2⟩; have S2 := Lib.hid (⟨hL, thru KW.out k2, AW.out.below k2⟩ : S w2 F p fs ∧ Below w.heap.size w w2 ∧ AtV w2 b0 x); clear hL hF k2)
    | (go_at_call 10; refine (vspeaks hO hP _).mono ?_; rintro e w3 ⟨rfl, k3⟩; have S3 := Lib.hid (⟨thruS hO S2.out.1 k3, thru S2.out.2.1 k3, S2.out.2.2.below k3⟩ : S w3 F p fs ∧ Below w.heap.size w w3 ∧ AtV w3 b0 x); obtain ⟨c0, c1, c2, c3, c4⟩ := S3.out.2.2; clear k3)
    | (go_at_call 11; refine (HRi.out _).mono ?_; rintro e w4 ⟨rfl, k4⟩; have S4 := Lib.hid (⟨thruS hO S3.out.1 k4, thru S3.out.2.1 k4, S3.out.2.2.below k4⟩ : S w4 F p fs ∧ Below w.heap.size w w4 ∧ AtV w4 b0 x); clear c0 c1 c2 c3 c4; obtain ⟨c0, c1, c2, c3, c4⟩ := S4.out.2.2; clear k4))
  clear c0 c1 c2 c3 c4
  have HA := Lib.hid (fun (st : Nat) w' G (j : Draw.quiet w4 st w' G) => S4.out.2.2.below j.1)
  refine Draw.wp_region_drawn (Draw.quiet w4) 0 [.val (x.v), .val (x.v), .val (x.v), .box (.cells (vcells zeroV) 24), .box (.cells (vcells zeroV) 24), .box (.cells (vcells zeroV) 24), .put 3 (.cells (vcells x) 24), .put 4 (.cells (vcells x) 24), .put 5 (.cells (vcells x) 24)] (by kernel_rfl) (by kernel_rfl) (by kernel_rfl) (Draw.quiet_kept w4) (Draw.quiet_start w4) ?_ ?_
  · simp only [Draw.fill, Draw.Leave.value]
    refine ⟨?_, ?_, ?_, ?_, ?_, ?_, ?_, ?_, ?_, trivial⟩
    · intro st gg w' G hw hk
      have q0 := (HA.out st w' G hw).1
      have q1 := (HA.out st w' G hw).2.1
      have q2 := (HA.out st w' G hw).2.2.1
      have q3 := (HA.out st w' G hw).2.2.2.1
      have q4 := (HA.out st w' G hw).2.2.2.2
      go_simp
      exact ⟨rfl, rfl⟩
    · intro st gg w' G hw hk
      have q0 := (HA.out st w' G hw).1
      have q1 := (HA.out st w' G hw).2.1
      have q2 := (HA.out st w' G hw).2.2.1
      have q3 := (HA.out st w' G hw).2.2.2.1
      have q4 := (HA.out st w' G hw).2.2.2.2
      go_simp
      exact ⟨rfl, rfl⟩
    · intro st gg w' G hw hk
      have q0 := (HA.out st w' G hw).1
      have q1 := (HA.out st w' G hw).2.1
      have q2 := (HA.out st w' G hw).2.2.1
      have q3 := (HA.out st w' G hw).2.2.2.1
      have q4 := (HA.out st w' G hw).2.2.2.2
      go_simp
      exact ⟨rfl, rfl⟩
    · intro st gg w' G hw hk
      go_simp
    · intro st gg w' G hw hk
      go_simp
    · intro st gg w' G hw hk
      go_simp
    · intro st gg w' G hw y b hy hob hb
      obtain rfl : Draw.Leave.box _ = y := Option.some.inj hy
      obtain rfl : _ = b := Option.some.inj hob
      have hb0 : Wv 24 w' _ zeroV := hb
      obtain ⟨r0, r1, r2, r3, r4⟩ := hb0.at'
      obtain ⟨f0, f1, f2, f3, f4⟩ := hb0.free
      refine ⟨_, ?_, only_putV zeroV x hb⟩
      clear hb0
      clear hb
      go_simp
      rfl
    · intro st gg w' G hw y b hy hob hb
      obtain rfl : Draw.Leave.box _ = y := Option.some.inj hy
      obtain rfl : _ = b := Option.some.inj hob
      have hb0 : Wv 24 w' _ zeroV := hb
      obtain ⟨r0, r1, r2, r3, r4⟩ := hb0.at'
      obtain ⟨f0, f1, f2, f3, f4⟩ := hb0.free
      refine ⟨_, ?_, only_putV zeroV x hb⟩
      clear hb0
      clear hb
      go_simp
      rfl
    · intro st gg w' G hw y b hy hob hb
      obtain rfl : Draw.Leave.box _ = y := Option.some.inj hy
      obtain rfl : _ = b := Option.some.inj hob
      have hb0 : Wv 24 w' _ zeroV := hb
      obtain ⟨r0, r1, r2, r3, r4⟩ := hb0.at'
      obtain ⟨f0, f1, f2, f3, f4⟩ := hb0.free
      refine ⟨_, ?_, only_putV zeroV x hb⟩
      clear hb0
      clear hb
      go_simp
      rfl
  intro gg w5 G5 k5 hbox hput hap
  have p3 : Wv 24 w5 (gg 3) x := hput 6 3 _ rfl
  have p4 : Wv 24 w5 (gg 4) x := hput 7 4 _ rfl
  have p5 : Wv 24 w5 (gg 5) x := hput 8 5 _ rfl
  have n34 := hap 3 4 _ _ _ _ (by decide) rfl rfl rfl rfl
  have n35 := hap 3 5 _ _ _ _ (by decide) rfl rfl rfl rfl
  have n45 := hap 4 5 _ _ _ _ (by decide) rfl rfl rfl rfl
  have l3 := (hbox 3 _ _ rfl rfl).2.1
  have l4 := (hbox 4 _ _ rfl rfl).2.1
  have l5 := (hbox 5 _ _ rfl rfl).2.1
  simp only [Draw.fill, Draw.Leave.value]
  go_simp
  generalize gg 3 = b3 at *
  generalize gg 4 = b4 at *
  generalize gg 5 = b5 at *
  have S5 := Lib.hid (⟨thruS hO S4.out.1 k5.1, thru S4.out.2.1 k5.1, S4.out.2.2.below k5.1, p3, p4, p5⟩ : S w5 F p fs ∧ Below w.heap.size w w5 ∧ AtV w5 b0 x ∧ Wv 24 w5 b3 x ∧ Wv 24 w5 b4 x ∧ Wv 24 w5 b5 x)
  have HN := Lib.hid (⟨n34, n35, n45, by have := S4.out.2.1.size; have := S4.out.2.2.block; omega⟩ : b3 ≠ b4 ∧ b3 ≠ b5 ∧ b4 ≠ b5 ∧ w.heap.size ≤ b3 ∧ w.heap.size ≤ b4 ∧ w.heap.size ≤ b5 ∧ w4.heap.size ≤ b3 ∧ w4.heap.size ≤ b4 ∧ w4.heap.size ≤ b5)
  have K5 := Lib.hid k5.1
  clear hbox hput hap p3 p4 p5 n34 n35 n45 l3 l4 l5 k5
  obtain ⟨-, -, -, c5, -⟩ := S5.out.2.2.2.1.at'
  obtain ⟨-, -, -, d5, -⟩ := S5.out.2.2.2.2.1.at'
  obtain ⟨-, -, -, e5, -⟩ := S5.out.2.2.2.2.2.at'
  obtain ⟨-, -, -, f5, -⟩ := S5.out.2.2.2.1.free
  obtain ⟨-, -, -, g5, -⟩ := S5.out.2.2.2.2.1.free
  obtain ⟨-, -, -, h5, -⟩ := S5.out.2.2.2.2.2.free
  obtain ⟨hw0, hw1⟩ := HW.out
  obtain ⟨n34, n35, n45, -⟩ := HN.out
  go_upto_region 7 with fail
  clear c5 d5 e5 f5 g5 h5 hw0 hw1
  have kV := ((K5.out.setCell (p := ⟨b3, 3, none⟩) HN.out.2.2.2.2.2.2.1 (.int .i64 (x.ht + m))).setCell (p := ⟨b4, 3, none⟩) HN.out.2.2.2.2.2.2.2.1 (.int .i64 0)).setCell (p := ⟨b5, 3, none⟩) HN.out.2.2.2.2.2.2.2.2 (.int .i64 1)
  have v3 := ((S5.out.2.2.2.1.set3 (x.ht + m)).other (o := 3) (v := .int .i64 0) n34).other (o := 3) (v := .int .i64 1) n35
  have v4 := ((S5.out.2.2.2.2.1.other (o := 3) (v := .int .i64 (x.ht + m)) n34.symm).set3 0).other (o := 3) (v := .int .i64 1) n45
  have v5 := ((S5.out.2.2.2.2.2.other (o := 3) (v := .int .i64 (x.ht + m)) n35.symm).other (o := 3) (v := .int .i64 0) n45.symm).set3 1
  generalize hV : ((w5.setCell ⟨b3, 3, none⟩ (.int .i64 (x.ht + m))).setCell ⟨b4, 3, none⟩ (.int .i64 0)).setCell ⟨b5, 3, none⟩ (.int .i64 1) = V at *
  have SV := Lib.hid (⟨thruS hO S4.out.1 kV, thru S4.out.2.1 kV, S4.out.2.2.below kV, v3, v4, v5⟩ : S V F p fs ∧ Below w.heap.size w V ∧ AtV V b0 x ∧ Wv 24 V b3 { x with ht := x.ht + m } ∧ Wv 24 V b4 { x with ht := 0 } ∧ Wv 24 V b5 { x with ht := 1 })
  clear hV kV v3 v4 v5 n34 n35 n45 S5 K5 HN
  have HS := Lib.hid (fun (st : Nat) w' G (j : Draw.quiet V st w' G) => thruS hO SV.out.1 j.1)
  have HA := Lib.hid (fun (st : Nat) w' G (j : Draw.quiet V st w' G) => SV.out.2.2.1.below j.1)
  have HB3 := Lib.hid (fun (st : Nat) w' G (j : Draw.quiet V st w' G) => (SV.out.2.2.2.1.below j.1).at')
  refine Draw.wp_region_drawn (Draw.quiet V) 0 [.val (.pointer (some p)), .val ((Vt.v x)), .val ((Vt.v x)), .val (.agg #[.int .i64 fx, .int .i64 fy, .int .i64 fr, .int .i64 ga]), .val (.pointer (some p)), .val ((Vt.v { x with ht := x.ht + m })), .val ((Vt.v { x with ht := x.ht + m })), .val (.agg #[.int .i64 sx, .int .i64 sy, .int .i64 sr, .int .i64 gb]), .box (.cells #[.int .i64 0, .int .i64 0, .int .i64 0, .int .i64 0] 38), .box (.cells #[.int .i64 0, .int .i64 0, .int .i64 0, .int .i64 0] 38), .put 8 (.cells #[.int .i64 fx, .int .i64 fy, .int .i64 fr, .int .i64 ga] 38), .put 9 (.cells #[.int .i64 sx, .int .i64 sy, .int .i64 sr, .int .i64 gb] 38)] (by kernel_rfl) (by kernel_rfl) (by kernel_rfl) (Draw.quiet_kept V) (Draw.quiet_start V) ?_ ?_
  · simp only [Draw.fill, Draw.Leave.value]
    refine ⟨?_, ?_, ?_, ?_, ?_, ?_, ?_, ?_, ?_, ?_, ?_, ?_, trivial⟩
    · intro st gg w' G hw hk
      go_simp
      exact ⟨rfl, rfl⟩
    · intro st gg w' G hw hk
      have q0 := (HA.out st w' G hw).1
      have q1 := (HA.out st w' G hw).2.1
      have q2 := (HA.out st w' G hw).2.2.1
      have q3 := (HA.out st w' G hw).2.2.2.1
      have q4 := (HA.out st w' G hw).2.2.2.2
      go_simp
      exact ⟨rfl, rfl⟩
    · intro st gg w' G hw hk
      go_simp
      exact Draw.stays_call (vwantOf_any x w')
    · intro st gg w' G hw hk
      go_simp
      exact Draw.stays_call (HFa.out w' _ _ (HS.out st w' G hw))
    · intro st gg w' G hw hk
      go_simp
      exact ⟨rfl, rfl⟩
    · intro st gg w' G hw hk
      have q0 := (HB3.out st w' G hw).1
      have q1 := (HB3.out st w' G hw).2.1
      have q2 := (HB3.out st w' G hw).2.2.1
      have q3 := (HB3.out st w' G hw).2.2.2.1
      have q4 := (HB3.out st w' G hw).2.2.2.2
      go_simp
      exact ⟨rfl, rfl⟩
    · intro st gg w' G hw hk
      go_simp
      exact Draw.stays_call (vwantOf_any { x with ht := x.ht + m } w')
    · intro st gg w' G hw hk
      go_simp
      exact Draw.stays_call (HFb.out w' _ _ (HS.out st w' G hw))
    · intro st gg w' G hw hk
      go_simp
    · intro st gg w' G hw hk
      go_simp
    · intro st gg w' G hw y b hy hob hb
      obtain rfl : Draw.Leave.box _ = y := Option.some.inj hy
      obtain rfl : _ = b := Option.some.inj hob
      obtain ⟨r0, r1, r2, r3⟩ := R4.of_block hb
      obtain ⟨f0, f1, f2, f3⟩ := free4 hb
      refine ⟨_, ?_, only_put4 _ 0 0 0 0 fx fy fr ga hb⟩
      clear hb
      go_simp
      rfl
    · intro st gg w' G hw y b hy hob hb
      obtain rfl : Draw.Leave.box _ = y := Option.some.inj hy
      obtain rfl : _ = b := Option.some.inj hob
      obtain ⟨r0, r1, r2, r3⟩ := R4.of_block hb
      obtain ⟨f0, f1, f2, f3⟩ := free4 hb
      refine ⟨_, ?_, only_put4 _ 0 0 0 0 sx sy sr gb hb⟩
      clear hb
      go_simp
      rfl
  intro gg w6 G6 k6 hbox hput hap
  have p8 : R4 w6 (gg 8) fx fy fr ga := R4.of_block (hput 10 8 _ rfl)
  have p9 : R4 w6 (gg 9) sx sy sr gb := R4.of_block (hput 11 9 _ rfl)
  simp only [Draw.fill, Draw.Leave.value]
  go_simp
  generalize gg 8 = b8 at *
  generalize gg 9 = b9 at *
  have S6 := Lib.hid (⟨thruS hO SV.out.1 k6.1, thru SV.out.2.1 k6.1, SV.out.2.2.2.2.1.below k6.1, SV.out.2.2.2.2.2.below k6.1, p8, p9⟩ : S w6 F p fs ∧ Below w.heap.size w w6 ∧ Wv 24 w6 b4 { x with ht := 0 } ∧ Wv 24 w6 b5 { x with ht := 1 } ∧ R4 w6 b8 fx fy fr ga ∧ R4 w6 b9 sx sy sr gb)
  clear hbox hput hap p8 p9 k6 HS HA HB3 SV HFa HFb
  go_upto_region 8 with fail
  have HS := Lib.hid (fun (st : Nat) w' G (j : Draw.quiet w6 st w' G) => thruS hO S6.out.1 j.1)
  have HB4 := Lib.hid (fun (st : Nat) w' G (j : Draw.quiet w6 st w' G) => (S6.out.2.2.1.below j.1).at')
  have HB5 := Lib.hid (fun (st : Nat) w' G (j : Draw.quiet w6 st w' G) => (S6.out.2.2.2.1.below j.1).at')
  refine Draw.wp_region_drawn (Draw.quiet w6) 0 [.val (.pointer (some p)), .val ((Vt.v { x with ht := 0 })), .val ((Vt.v { x with ht := 0 })), .val (.agg #[.int .i64 tx, .int .i64 ty, .int .i64 tr, .int .i64 gc]), .val (.pointer (some p)), .val ((Vt.v { x with ht := 1 })), .val ((Vt.v { x with ht := 1 })), .val (.agg #[.int .i64 tx, .int .i64 ty, .int .i64 tr, .int .i64 gd]), .box (.cells #[.int .i64 0, .int .i64 0, .int .i64 0, .int .i64 0] 38), .box (.cells #[.int .i64 0, .int .i64 0, .int .i64 0, .int .i64 0] 38), .put 8 (.cells #[.int .i64 tx, .int .i64 ty, .int .i64 tr, .int .i64 gc] 38), .put 9 (.cells #[.int .i64 tx, .int .i64 ty, .int .i64 tr, .int .i64 gd] 38)] (by kernel_rfl) (by kernel_rfl) (by kernel_rfl) (Draw.quiet_kept w6) (Draw.quiet_start w6) ?_ ?_
  · simp only [Draw.fill, Draw.Leave.value]
    refine ⟨?_, ?_, ?_, ?_, ?_, ?_, ?_, ?_, ?_, ?_, ?_, ?_, trivial⟩
    · intro st gg w' G hw hk
      go_simp
      exact ⟨rfl, rfl⟩
    · intro st gg w' G hw hk
      have q0 := (HB4.out st w' G hw).1
      have q1 := (HB4.out st w' G hw).2.1
      have q2 := (HB4.out st w' G hw).2.2.1
      have q3 := (HB4.out st w' G hw).2.2.2.1
      have q4 := (HB4.out st w' G hw).2.2.2.2
      go_simp
      exact ⟨rfl, rfl⟩
    · intro st gg w' G hw hk
      go_simp
      exact Draw.stays_call (vwantOf_any { x with ht := 0 } w')
    · intro st gg w' G hw hk
      go_simp
      exact Draw.stays_call (HFc.out w' _ _ (HS.out st w' G hw))
    · intro st gg w' G hw hk
      go_simp
      exact ⟨rfl, rfl⟩
    · intro st gg w' G hw hk
      have q0 := (HB5.out st w' G hw).1
      have q1 := (HB5.out st w' G hw).2.1
      have q2 := (HB5.out st w' G hw).2.2.1
      have q3 := (HB5.out st w' G hw).2.2.2.1
      have q4 := (HB5.out st w' G hw).2.2.2.2
      go_simp
      exact ⟨rfl, rfl⟩
    · intro st gg w' G hw hk
      go_simp
      exact Draw.stays_call (vwantOf_any { x with ht := 1 } w')
    · intro st gg w' G hw hk
      go_simp
      exact Draw.stays_call (HFd.out w' _ _ (HS.out st w' G hw))
    · intro st gg w' G hw hk
      go_simp
    · intro st gg w' G hw hk
      go_simp
    · intro st gg w' G hw y b hy hob hb
      obtain rfl : Draw.Leave.box _ = y := Option.some.inj hy
      obtain rfl : _ = b := Option.some.inj hob
      obtain ⟨r0, r1, r2, r3⟩ := R4.of_block hb
      obtain ⟨f0, f1, f2, f3⟩ := free4 hb
      refine ⟨_, ?_, only_put4 _ 0 0 0 0 tx ty tr gc hb⟩
      clear hb
      go_simp
      rfl
    · intro st gg w' G hw y b hy hob hb
      obtain rfl : Draw.Leave.box _ = y := Option.some.inj hy
      obtain rfl : _ = b := Option.some.inj hob
      obtain ⟨r0, r1, r2, r3⟩ := R4.of_block hb
      obtain ⟨f0, f1, f2, f3⟩ := free4 hb
      refine ⟨_, ?_, only_put4 _ 0 0 0 0 tx ty tr gd hb⟩
      clear hb
      go_simp
      rfl
  intro gg w7 G7 k7 hbox hput hap
  have p8 : R4 w7 (gg 8) tx ty tr gc := R4.of_block (hput 10 8 _ rfl)
  have p9 : R4 w7 (gg 9) tx ty tr gd := R4.of_block (hput 11 9 _ rfl)
  simp only [Draw.fill, Draw.Leave.value]
  go_simp
  generalize gg 8 = b10 at *
  generalize gg 9 = b11 at *
  have S7 := Lib.hid (⟨thru S6.out.2.1 k7.1, S6.out.2.2.2.2.1.below k7.1, S6.out.2.2.2.2.2.below k7.1, p8, p9⟩ : Below w.heap.size w w7 ∧ R4 w7 b8 fx fy fr ga ∧ R4 w7 b9 sx sy sr gb ∧ R4 w7 b10 tx ty tr gc ∧ R4 w7 b11 tx ty tr gd)
  clear hbox hput hap p8 p9 k7 HS HB4 HB5 S6 HFc HFd
  obtain ⟨a0, a1, -, -⟩ := S7.out.2.1
  obtain ⟨d0, d1, -, -⟩ := S7.out.2.2.1
  obtain ⟨e0, e1, -, -⟩ := S7.out.2.2.2.1
  obtain ⟨g0, g1, -, -⟩ := S7.out.2.2.2.2
  have hle := HLE.out
  go_wp2_with fail
  go_ret
  exact ⟨ret_b (by simp [hle]), S7.out.1⟩

theorem vtall_any (hO : SpaceOk S) (hP : AvoidOk S) (A : Option Addr) (n c : Nat) (fs : List Fl) (x : Vt) (m : Int) (w : World) (hn : n = fs.length) (hmm : n ≤ 9223372036854775807) (hx : Floats w w.heap.size A fs) (hm' : 0 ≤ m ∧ m ≤ 255) :
    Calls Try.prog 8 #[.slice A n c, x.v, .int .u8 m] w fun e w' => e = .returned (.bool true) ∧ Below w.heap.size w w' := by
  by_cases hh : (fs.all near49 && decide ((n : Int) ≤ 30)) = true
  · simp only [Bool.and_eq_true, decide_eq_true_eq] at hh
    by_cases h2 : rightV x = true
    · have hr := rightV_iff.1 h2
      by_cases hy : 140737488355328 < x.ht
      · exact vtall_high hO hP A n c fs x m w hn (by omega) hx hh.1 hr hy
      · exact vtall_yes hO hP A n c fs x m w hn (by omega) hx hh.1 hr hm' hy
    · exact vtall_wrong hO hP A n c fs x m w hn (by omega) hx hh.1 (by simpa using h2)
  · exact vtall_few hO hP A n c fs x m w hn hmm hx (by simpa using hh)

end

end Go.Proofs.Ytmpfjkhboenfcaa.Avoid
