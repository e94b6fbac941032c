/- The law: a taller float never stands higher. -/
import Derived.Test.YtkabpflbedpbaaaPart35
namespace Go.Proofs.Ytkabpflbedpbaaa.Place
open Go.RowKit Go.Sort Go.Proofs.Ytkabpflbedpbaaa.Rect Go.Proofs.Ytkabpflbedpbaaa.More Go.Proofs.Ytkabpflbedpbaaa.Shelf Go.Proofs.Ytkabpflbedpbaaa.Space
set_option linter.unusedVariables false
set_option linter.unusedSimpArgs false

section
variable {S : World → (Nat → Prop) → Addr → List Fl → Prop}

set_option maxRecDepth 100000 in
set_option maxHeartbeats 1000000 in
theorem tall_few (hO : SpaceOk S) (hP : PlaceOk S) (A : Option Addr) (n c : Nat) (fs : List Fl) (x : Wt) (m : Int) (w : World) (hn : n = fs.length) (hlen : n ≤ 9223372036854775807) (hx : Floats w w.heap.size A fs) (hv : (fs.all near49 && decide ((n : Int) ≤ 30)) = false) :
    Calls Try.prog 9 #[.slice A n c, x.v, .int .u8 m] w fun e w' => e = .returned (.bool true) ∧ Below w.heap.size w w' := by
  have HBe := Lib.hid (fun w1 (k : Below w.heap.size w w1) => lbegin_no A n c fs 30 w1 hn hlen (hx.thru k) hv)
  clear hn hx hv
  go_enter Try.func9, Try.ntmps9
  go_upto_region 1 with fail
  generalize hW1 : World.alloc w _ = W
  obtain ⟨b0, hb0⟩ : ∃ b0, w.heap.size = b0 := ⟨_, rfl⟩
  have KW := Lib.hid (show Below w.heap.size w W by rw [← hW1]; exact ba1 _ _)
  have AW := Lib.hid (show AtW W b0 x by rw [← hW1, ← hb0]; exact atW_boxed _ _ _)
  rw [hb0]
  clear hW1 hb0
  go_upto_region 3 with (first
    | (go_at_call 10; refine (HBe.out _ KW.out).mono ?_; rintro e w2 ⟨rfl, k2⟩; have K2 := Lib.hid (thru KW.out k2); clear k2)
    | (go_at_call 11; refine (qspeaks hO hP _).mono ?_; rintro e w3 ⟨rfl, k3⟩; have K3 := Lib.hid (thru K2.out k3); clear k3))
  go_wp2_with (first
    | (go_at_call 11; refine (qspeaks hO hP _).mono ?_; rintro e w9 ⟨rfl, k9⟩; have K9 := Lib.hid (thru K3.out k9); clear k9))
  go_ret
  exact ⟨rfl, K9.out⟩

set_option maxRecDepth 100000 in
set_option maxHeartbeats 1000000 in
theorem tall_wrong (hO : SpaceOk S) (hP : PlaceOk S) (A : Option Addr) (n c : Nat) (fs : List Fl) (x : Wt) (m : Int) (w : World) (hn : n = fs.length) (hlen : n ≤ 30) (hx : Floats w w.heap.size A fs) (h49 : fs.all near49 = true) (hr : rightW x = false) :
    Calls Try.prog 9 #[.slice A n c, x.v, .int .u8 m] w fun e w' => e = .returned (.bool true) ∧ Below w.heap.size w w' := by
  have HBe := Lib.hid (fun w1 (k : Below w.heap.size w w1) => lbegin_any hO A n c fs 30 w1 hn (by omega) (by omega) (hx.thru k) h49)
  have HRi := Lib.hid (fun w => right_is x false hr w)
  clear hn hx h49
  go_enter Try.func9, Try.ntmps9
  go_upto_region 1 with fail
  generalize hW1 : World.alloc w _ = W
  obtain ⟨b0, hb0⟩ : ∃ b0, w.heap.size = b0 := ⟨_, rfl⟩
  have KW := Lib.hid (show Below w.heap.size w W by rw [← hW1]; exact ba1 _ _)
  have AW := Lib.hid (show AtW W b0 x by rw [← hW1, ← hb0]; exact atW_boxed _ _ _)
  rw [hb0]
  clear hW1 hb0
  go_upto_region 3 with (first
    | (go_at_call 10; refine (HBe.out _ KW.out).mono ?_; rintro e w2 ⟨⟨p, F, rfl, hL, hF⟩, k2⟩; have S2 := Lib.hid (⟨hL, thru KW.out k2, AW.out.below k2⟩ : S w2 F p fs ∧ Below w.heap.size w w2 ∧ AtW w2 b0 x); clear hL hF k2)
    | (go_at_call 11; refine (qspeaks hO hP _).mono ?_; rintro e w3 ⟨rfl, k3⟩; have S3 := Lib.hid (⟨thruS hO S2.out.1 k3, thru S2.out.2.1 k3, S2.out.2.2.below k3⟩ : S w3 F p fs ∧ Below w.heap.size w w3 ∧ AtW w3 b0 x); obtain ⟨c0, c1, c2, c3, c4, c5, c6⟩ := S3.out.2.2; clear k3)
    | (go_at_call 12; refine (HRi.out _).mono ?_; rintro e w4 ⟨rfl, k4⟩; have S4 := Lib.hid (⟨thruS hO S3.out.1 k4, thru S3.out.2.1 k4, S3.out.2.2.below k4⟩ : S w4 F p fs ∧ Below w.heap.size w w4 ∧ AtW w4 b0 x); clear k4))
  go_wp2_with (first
    | (go_at_call 11; refine (qspeaks hO hP _).mono ?_; rintro e w9 ⟨rfl, k9⟩; have K9 := Lib.hid (thru S4.out.2.1 k9); clear k9))
  go_ret
  exact ⟨rfl, K9.out⟩

set_option maxRecDepth 100000 in
set_option maxHeartbeats 1000000 in
theorem tall_high (hO : SpaceOk S) (hP : PlaceOk S) (A : Option Addr) (n c : Nat) (fs : List Fl) (x : Wt) (m : Int) (w : World) (hn : n = fs.length) (hlen : n ≤ 30) (hx : Floats w w.heap.size A fs) (h49 : fs.all near49 = true) (hr : RightW x) (hy : 140737488355328 < x.ht) :
    Calls Try.prog 9 #[.slice A n c, x.v, .int .u8 m] w fun e w' => e = .returned (.bool true) ∧ Below w.heap.size w w' := by
  have HBe := Lib.hid (fun w1 (k : Below w.heap.size w w1) => lbegin_any hO A n c fs 30 w1 hn (by omega) (by omega) (hx.thru k) h49)
  have HRi := Lib.hid (fun w => right_is x true (rightW_iff.2 hr) w)
  clear hn hx h49
  go_enter Try.func9, Try.ntmps9
  go_upto_region 1 with fail
  generalize hW1 : World.alloc w _ = W
  obtain ⟨b0, hb0⟩ : ∃ b0, w.heap.size = b0 := ⟨_, rfl⟩
  have KW := Lib.hid (show Below w.heap.size w W by rw [← hW1]; exact ba1 _ _)
  have AW := Lib.hid (show AtW W b0 x by rw [← hW1, ← hb0]; exact atW_boxed _ _ _)
  rw [hb0]
  clear hW1 hb0
  go_upto_region 3 with (first
    | (go_at_call 10; refine (HBe.out _ KW.out).mono ?_; rintro e w2 ⟨⟨p, F, rfl, hL, hF⟩, k2⟩; have S2 := Lib.hid (⟨hL, thru KW.out k2, AW.out.below k2⟩ : S w2 F p fs ∧ Below w.heap.size w w2 ∧ AtW w2 b0 x); clear hL hF k2)
    | (go_at_call 11; refine (qspeaks hO hP _).mono ?_; rintro e w3 ⟨rfl, k3⟩; have S3 := Lib.hid (⟨thruS hO S2.out.1 k3, thru S2.out.2.1 k3, S2.out.2.2.below k3⟩ : S w3 F p fs ∧ Below w.heap.size w w3 ∧ AtW w3 b0 x); obtain ⟨c0, c1, c2, c3, c4, c5, c6⟩ := S3.out.2.2; clear k3)
    | (go_at_call 12; refine (HRi.out _).mono ?_; rintro e w4 ⟨rfl, k4⟩; have S4 := Lib.hid (⟨thruS hO S3.out.1 k4, thru S3.out.2.1 k4, S3.out.2.2.below k4⟩ : S w4 F p fs ∧ Below w.heap.size w w4 ∧ AtW w4 b0 x); clear c0 c1 c2 c3 c4 c5 c6; obtain ⟨c0, c1, c2, c3, c4, c5, c6⟩ := S4.out.2.2; clear k4))
  go_wp2_with (first
    | (go_at_call 11; refine (qspeaks hO hP _).mono ?_; rintro e w9 ⟨rfl, k9⟩; have K9 := Lib.hid (thru S4.out.2.1 k9); clear k9))
  go_ret
  exact ⟨rfl, K9.out⟩

set_option maxRecDepth 100000 in
set_option maxHeartbeats 1000000 in
theorem tall_yes (hO : SpaceOk S) (hP : PlaceOk S) (A : Option Addr) (n c : Nat) (fs : List Fl) (x : Wt) (m : Int) (w : World) (hn : n = fs.length) (hlen : n ≤ 30) (hx : Floats w w.heap.size A fs) (h49 : fs.all near49 = true) (hr : RightW x) (hm : 0 ≤ m ∧ m ≤ 255) (hy2 : ¬ 140737488355328 < x.ht) :
    Calls Try.prog 9 #[.slice A n c, x.v, .int .u8 m] w fun e w' => e = .returned (.bool true) ∧ Below w.heap.size w w' := by
  have HBe := Lib.hid (fun w1 (k : Below w.heap.size w w1) => lbegin_any hO A n c fs 30 w1 hn (by omega) (by omega) (hx.thru k) h49)
  have HRi := Lib.hid (fun w => right_is x true (rightW_iff.2 hr) w)
  have hh2 := hr.ht2
  have hh1 := hr.ht1
  have hrt : RightW { x with ht := x.ht + m } := ⟨hr.f1, hr.f2, hr.t1, hr.t2, hr.wd1, hr.wd2, show -281474976710656 ≤ x.ht + m by omega, show x.ht + m ≤ 281474976710656 by omega, hr.y1, hr.y2, hr.sd, hr.cl, hr.ft⟩
  have hr0 : RightW { x with ht := 0 } := ⟨hr.f1, hr.f2, hr.t1, hr.t2, hr.wd1, hr.wd2, show (-281474976710656 : Int) ≤ 0 by decide, show (0 : Int) ≤ 281474976710656 by decide, hr.y1, hr.y2, hr.sd, hr.cl, hr.ft⟩
  have HFa := Lib.hid (fun w1 F p (h : S w1 F p fs) => hP.find w1 F p fs x h h49 hr)
  have HFb := Lib.hid (fun w1 F p (h : S w1 F p fs) => hP.find w1 F p fs { x with ht := x.ht + m } h h49 hrt)
  have HFc := Lib.hid (fun w1 F p (h : S w1 F p fs) => hP.find w1 F p fs { x with ht := 0 } h h49 hr0)
  have HFd := Lib.hid (fun w1 F p (h : S w1 F p fs) => hP.find w1 F p fs (flat x) h h49 (right_flat hr))
  unfold placed at HFa HFb HFc HFd
  rw [show findX fs { x with ht := x.ht + m } = findX fs x from rfl, show findY fs { x with ht := x.ht + m } = findY fs x from rfl] at HFb
  rw [show findX fs { x with ht := 0 } = findX fs x from rfl, show findY fs { x with ht := 0 } = findY fs x from rfl] at HFc
  rw [show findX fs (flat x) = findX fs x from rfl, show findY fs (flat x) = findY fs x from rfl] at HFd
  have hw0 : IntKind.i64.wrap m = m := IntWalk.i64_in _ (by omega)
  have hw1 : IntKind.i64.wrap (x.ht + m) = x.ht + m := IntWalk.i64_in _ (by omega)
  have HW := Lib.hid (⟨hw0, hw1⟩ : IntKind.i64.wrap m = m ∧ IntKind.i64.wrap (x.ht + m) = x.ht + m)
  generalize findX fs x = fx at HFa HFb HFc HFd
  generalize findY fs x = fy at HFa HFb HFc HFd
  obtain ⟨fr, hfr⟩ : ∃ fr, fx + x.wd = fr := ⟨_, rfl⟩
  obtain ⟨ga, hga⟩ : ∃ ga, fy + x.ht = ga := ⟨_, rfl⟩
  obtain ⟨gb, hgb⟩ : ∃ gb, fy + (x.ht + m) = gb := ⟨_, rfl⟩
  obtain ⟨gc, hgc⟩ : ∃ gc, fy + 0 = gc := ⟨_, rfl⟩
  obtain ⟨gd, hgd⟩ : ∃ gd, fy + 1 = gd := ⟨_, rfl⟩
  replace HFa : Hid (∀ w1 F p, S w1 F p fs → Calls Try.prog 18 #[.pointer (some p), x.v] w1 fun r w' => r = .returned (.agg #[.int .i64 fx, .int .i64 fy, .int .i64 fr, .int .i64 ga]) ∧ Below w1.heap.size w1 w') := Lib.hid (fun w1 F p h => by rw [← hfr, ← hga]; exact HFa.out w1 F p h)
  replace HFb : Hid (∀ w1 F p, S w1 F p fs → Calls Try.prog 18 #[.pointer (some p), Wt.v { x with ht := x.ht + m }] w1 fun r w' => r = .returned (.agg #[.int .i64 fx, .int .i64 fy, .int .i64 fr, .int .i64 gb]) ∧ Below w1.heap.size w1 w') := Lib.hid (fun w1 F p h => by rw [← hfr, ← hgb]; exact HFb.out w1 F p h)
  replace HFc : Hid (∀ w1 F p, S w1 F p fs → Calls Try.prog 18 #[.pointer (some p), Wt.v { x with ht := 0 }] w1 fun r w' => r = .returned (.agg #[.int .i64 fx, .int .i64 fy, .int .i64 fr, .int .i64 gc]) ∧ Below w1.heap.size w1 w') := Lib.hid (fun w1 F p h => by rw [← hfr, ← hgc]; exact HFc.out w1 F p h)
  replace HFd : Hid (∀ w1 F p, S w1 F p fs → Calls Try.prog 18 #[.pointer (some p), Wt.v (flat x)] w1 fun r w' => r = .returned (.agg #[.int .i64 fx, .int .i64 fy, .int .i64 fr, .int .i64 gd]) ∧ Below w1.heap.size w1 w') := Lib.hid (fun w1 F p h => by rw [← hfr, ← hgd]; exact HFd.out w1 F p h)
  clear hn hx h49 hr hh1 hh2 hrt hr0 hw0 hw1 hm hfr hga hgb hgc hgd
  go_enter Try.func9, Try.ntmps9
  go_upto_region 1 with fail
  generalize hW1 : World.alloc w _ = W
  obtain ⟨b0, hb0⟩ : ∃ b0, w.heap.size = b0 := ⟨_, rfl⟩
  have KW := Lib.hid (show Below w.heap.size w W by rw [← hW1]; exact ba1 _ _)
  have AW := Lib.hid (show AtW W b0 x by rw [← hW1, ← hb0]; exact atW_boxed _ _ _)
  rw [hb0]
  clear hW1 hb0
  go_upto_region 4 with (first
    | (go_at_call 10; refine (HBe.out _ KW.out).mono ?_; rintro e w2 ⟨⟨p, F, rfl, hL, hF⟩, k2⟩; have S2 := Lib.hid (⟨hL, thru KW.out k2, AW.out.below k2⟩ : S w2 F p fs ∧ Below w.heap.size w w2 ∧ AtW w2 b0 x); clear hL hF k2)
    | (go_at_call 11; refine (qspeaks hO hP _).mono ?_; rintro e w3 ⟨rfl, k3⟩; have S3 := Lib.hid (⟨thruS hO S2.out.1 k3, thru S2.out.2.1 k3, S2.out.2.2.below k3⟩ : S w3 F p fs ∧ Below w.heap.size w w3 ∧ AtW w3 b0 x); obtain ⟨c0, c1, c2, c3, c4, c5, c6⟩ := S3.out.2.2; clear k3)
    | (go_at_call 12; refine (HRi.out _).mono ?_; rintro e w4 ⟨rfl, k4⟩; have S4 := Lib.hid (⟨thruS hO S3.out.1 k4, thru S3.out.2.1 k4, S3.out.2.2.below k4⟩ : S w4 F p fs ∧ Below w.heap.size w w4 ∧ AtW w4 b0 x); clear c0 c1 c2 c3 c4 c5 c6; obtain ⟨c0, c1, c2, c3, c4, c5, c6⟩ := S4.out.2.2; clear k4))
  clear c0 c1 c2 c3 c4 c5 c6
  have HA := Lib.hid (fun (st : Nat) w' G (j : Draw.quiet w4 st w' G) => S4.out.2.2.below j.1)
  refine Draw.wp_region_drawn (Draw.quiet w4) 0 [.val (x.v), .val (x.v), .val (x.v), .box (.cells (wcells zeroW) 24), .box (.cells (wcells zeroW) 24), .box (.cells (wcells zeroW) 24), .put 3 (.cells (wcells x) 24), .put 4 (.cells (wcells x) 24), .put 5 (.cells (wcells x) 24)] (by kernel_rfl) (by kernel_rfl) (by kernel_rfl) (Draw.quiet_kept w4) (Draw.quiet_start w4) ?_ ?_
  · simp only [Draw.fill, Draw.Leave.value]
    refine ⟨?_, ?_, ?_, ?_, ?_, ?_, ?_, ?_, ?_, trivial⟩
    · intro st gg w' G hw hk
      have q0 := (HA.out st w' G hw).1
      have q1 := (HA.out st w' G hw).2.1
      have q2 := (HA.out st w' G hw).2.2.1
      have q3 := (HA.out st w' G hw).2.2.2.1
      have q4 := (HA.out st w' G hw).2.2.2.2.1
      have q5 := (HA.out st w' G hw).2.2.2.2.2.1
      have q6 := (HA.out st w' G hw).2.2.2.2.2.2
      go_simp
      exact ⟨rfl, rfl⟩
    · intro st gg w' G hw hk
      have q0 := (HA.out st w' G hw).1
      have q1 := (HA.out st w' G hw).2.1
      have q2 := (HA.out st w' G hw).2.2.1
      have q3 := (HA.out st w' G hw).2.2.2.1
      have q4 := (HA.out st w' G hw).2.2.2.2.1
      have q5 := (HA.out st w' G hw).2.2.2.2.2.1
      have q6 := (HA.out st w' G hw).2.2.2.2.2.2
      go_simp
      exact ⟨rfl, rfl⟩
    · intro st gg w' G hw hk
      have q0 := (HA.out st w' G hw).1
      have q1 := (HA.out st w' G hw).2.1
      have q2 := (HA.out st w' G hw).2.2.1
      have q3 := (HA.out st w' G hw).2.2.2.1
      have q4 := (HA.out st w' G hw).2.2.2.2.1
      have q5 := (HA.out st w' G hw).2.2.2.2.2.1
      have q6 := (HA.out st w' G hw).2.2.2.2.2.2
      go_simp
      exact ⟨rfl, rfl⟩
    · intro st gg w' G hw hk
      go_simp
    · intro st gg w' G hw hk
      go_simp
    · intro st gg w' G hw hk
      go_simp
    · intro st gg w' G hw y b hy hob hb
      obtain rfl : Draw.Leave.box _ = y := Option.some.inj hy
      obtain rfl : _ = b := Option.some.inj hob
      have hb0 : Wb w' _ zeroW := hb
      obtain ⟨r0, r1, r2, r3, r4, r5, r6⟩ := hb0.at'
      obtain ⟨f0, f1, f2, f3, f4, f5, f6⟩ := hb0.free
      refine ⟨_, ?_, only_putW zeroW x hb⟩
      clear hb0
      clear hb
      go_simp
      rfl
    · intro st gg w' G hw y b hy hob hb
      obtain rfl : Draw.Leave.box _ = y := Option.some.inj hy
      obtain rfl : _ = b := Option.some.inj hob
      have hb0 : Wb w' _ zeroW := hb
      obtain ⟨r0, r1, r2, r3, r4, r5, r6⟩ := hb0.at'
      obtain ⟨f0, f1, f2, f3, f4, f5, f6⟩ := hb0.free
      refine ⟨_, ?_, only_putW zeroW x hb⟩
      clear hb0
      clear hb
      go_simp
      rfl
    · intro st gg w' G hw y b hy hob hb
      obtain rfl : Draw.Leave.box _ = y := Option.some.inj hy
      obtain rfl : _ = b := Option.some.inj hob
      have hb0 : Wb w' _ zeroW := hb
      obtain ⟨r0, r1, r2, r3, r4, r5, r6⟩ := hb0.at'
      obtain ⟨f0, f1, f2, f3, f4, f5, f6⟩ := hb0.free
      refine ⟨_, ?_, only_putW zeroW x hb⟩
      clear hb0
      clear hb
      go_simp
      rfl
  intro gg w5 G5 k5 hbox hput hap
  have p3 : Wb w5 (gg 3) x := hput 6 3 _ rfl
  have p4 : Wb w5 (gg 4) x := hput 7 4 _ rfl
  have p5 : Wb w5 (gg 5) x := hput 8 5 _ rfl
  have n34 := hap 3 4 _ _ _ _ (by decide) rfl rfl rfl rfl
  have n35 := hap 3 5 _ _ _ _ (by decide) rfl rfl rfl rfl
  have n45 := hap 4 5 _ _ _ _ (by decide) rfl rfl rfl rfl
  have l3 := (hbox 3 _ _ rfl rfl).2.1
  have l4 := (hbox 4 _ _ rfl rfl).2.1
  have l5 := (hbox 5 _ _ rfl rfl).2.1
  simp only [Draw.fill, Draw.Leave.value]
  go_simp
  generalize gg 3 = b3 at *
  generalize gg 4 = b4 at *
  generalize gg 5 = b5 at *
  have S5 := Lib.hid (⟨thruS hO S4.out.1 k5.1, thru S4.out.2.1 k5.1, S4.out.2.2.below k5.1, p3, p4, p5⟩ : S w5 F p fs ∧ Below w.heap.size w w5 ∧ AtW w5 b0 x ∧ Wb w5 b3 x ∧ Wb w5 b4 x ∧ Wb w5 b5 x)
  have HN := Lib.hid (⟨n34, n35, n45, by have := S4.out.2.1.size; have := S4.out.2.2.block; omega⟩ : b3 ≠ b4 ∧ b3 ≠ b5 ∧ b4 ≠ b5 ∧ w.heap.size ≤ b3 ∧ w.heap.size ≤ b4 ∧ w.heap.size ≤ b5 ∧ w4.heap.size ≤ b3 ∧ w4.heap.size ≤ b4 ∧ w4.heap.size ≤ b5)
  have K5 := Lib.hid k5.1
  clear hbox hput hap p3 p4 p5 n34 n35 n45 l3 l4 l5 k5
  obtain ⟨-, -, -, -, -, c5, -⟩ := S5.out.2.2.2.1.at'
  obtain ⟨-, -, -, -, -, d5, -⟩ := S5.out.2.2.2.2.1.at'
  obtain ⟨-, -, -, -, -, e5, -⟩ := S5.out.2.2.2.2.2.at'
  obtain ⟨-, -, -, -, -, f5, -⟩ := S5.out.2.2.2.1.free
  obtain ⟨-, -, -, -, -, g5, -⟩ := S5.out.2.2.2.2.1.free
  obtain ⟨-, -, -, -, -, h5, -⟩ := S5.out.2.2.2.2.2.free
  obtain ⟨hw0, hw1⟩ := HW.out
  obtain ⟨n34, n35, n45, -⟩ := HN.out
  go_upto_region 7 with fail
  clear c5 d5 e5 f5 g5 h5 hw0 hw1
  have kV := ((K5.out.setCell (p := ⟨b3, 5, none⟩) HN.out.2.2.2.2.2.2.1 (.int .i64 (x.ht + m))).setCell (p := ⟨b4, 5, none⟩) HN.out.2.2.2.2.2.2.2.1 (.int .i64 0)).setCell (p := ⟨b5, 5, none⟩) HN.out.2.2.2.2.2.2.2.2 (.int .i64 1)
  have v3 := ((S5.out.2.2.2.1.set5 (x.ht + m)).other (o := 5) (v := .int .i64 0) n34).other (o := 5) (v := .int .i64 1) n35
  have v4 := ((S5.out.2.2.2.2.1.other (o := 5) (v := .int .i64 (x.ht + m)) n34.symm).set5 0).other (o := 5) (v := .int .i64 1) n45
  have v5 := ((S5.out.2.2.2.2.2.other (o := 5) (v := .int .i64 (x.ht + m)) n35.symm).other (o := 5) (v := .int .i64 0) n45.symm).set5 1
  generalize hV : ((w5.setCell ⟨b3, 5, none⟩ (.int .i64 (x.ht + m))).setCell ⟨b4, 5, none⟩ (.int .i64 0)).setCell ⟨b5, 5, none⟩ (.int .i64 1) = V at *
  have SV := Lib.hid (⟨thruS hO S4.out.1 kV, thru S4.out.2.1 kV, S4.out.2.2.below kV, v3, v4, v5⟩ : S V F p fs ∧ Below w.heap.size w V ∧ AtW V b0 x ∧ Wb V b3 { x with ht := x.ht + m } ∧ Wb V b4 { x with ht := 0 } ∧ Wb V b5 (flat x))
  clear hV kV v3 v4 v5 n34 n35 n45 S5 K5 HN
  have HS := Lib.hid (fun (st : Nat) w' G (j : Draw.quiet V st w' G) => thruS hO SV.out.1 j.1)
  have HA := Lib.hid (fun (st : Nat) w' G (j : Draw.quiet V st w' G) => SV.out.2.2.1.below j.1)
  have HB3 := Lib.hid (fun (st : Nat) w' G (j : Draw.quiet V st w' G) => (SV.out.2.2.2.1.below j.1).at')
  refine Draw.wp_region_drawn (Draw.quiet V) 0 [.val (.pointer (some p)), .val ((Wt.v x)), .val ((Wt.v x)), .val (.agg #[.int .i64 fx, .int .i64 fy, .int .i64 fr, .int .i64 ga]), .val (.pointer (some p)), .val ((Wt.v { x with ht := x.ht + m })), .val ((Wt.v { x with ht := x.ht + m })), .val (.agg #[.int .i64 fx, .int .i64 fy, .int .i64 fr, .int .i64 gb]), .box (.cells #[.int .i64 0, .int .i64 0, .int .i64 0, .int .i64 0] 40), .box (.cells #[.int .i64 0, .int .i64 0, .int .i64 0, .int .i64 0] 40), .put 8 (.cells #[.int .i64 fx, .int .i64 fy, .int .i64 fr, .int .i64 ga] 40), .put 9 (.cells #[.int .i64 fx, .int .i64 fy, .int .i64 fr, .int .i64 gb] 40)] (by kernel_rfl) (by kernel_rfl) (by kernel_rfl) (Draw.quiet_kept V) (Draw.quiet_start V) ?_ ?_
  · simp only [Draw.fill, Draw.Leave.value]
    refine ⟨?_, ?_, ?_, ?_, ?_, ?_, ?_, ?_, ?_, ?_, ?_, ?_, trivial⟩
    · intro st gg w' G hw hk
      go_simp
      exact ⟨rfl, rfl⟩
    · intro st gg w' G hw hk
      have q0 := (HA.out st w' G hw).1
      have q1 := (HA.out st w' G hw).2.1
      have q2 := (HA.out st w' G hw).2.2.1
      have q3 := (HA.out st w' G hw).2.2.2.1
      have q4 := (HA.out st w' G hw).2.2.2.2.1
      have q5 := (HA.out st w' G hw).2.2.2.2.2.1
      have q6 := (HA.out st w' G hw).2.2.2.2.2.2
      go_simp
      exact ⟨rfl, rfl⟩
    · intro st gg w' G hw hk
      go_simp
      exact Draw.stays_call (wantOf_any x w')
    · intro st gg w' G hw hk
      go_simp
      exact Draw.stays_call (HFa.out w' _ _ (HS.out st w' G hw))
    · intro st gg w' G hw hk
      go_simp
      exact ⟨rfl, rfl⟩
    · intro st gg w' G hw hk
      have q0 := (HB3.out st w' G hw).1
      have q1 := (HB3.out st w' G hw).2.1
      have q2 := (HB3.out st w' G hw).2.2.1
      have q3 := (HB3.out st w' G hw).2.2.2.1
      have q4 := (HB3.out st w' G hw).2.2.2.2.1
      have q5 := (HB3.out st w' G hw).2.2.2.2.2.1
      have q6 := (HB3.out st w' G hw).2.2.2.2.2.2
      go_simp
      exact ⟨rfl, rfl⟩
    · intro st gg w' G hw hk
      go_simp
      exact Draw.stays_call (wantOf_any { x with ht := x.ht + m } w')
    · intro st gg w' G hw hk
      go_simp
      exact Draw.stays_call (HFb.out w' _ _ (HS.out st w' G hw))
    · intro st gg w' G hw hk
      go_simp
    · intro st gg w' G hw hk
      go_simp
    · intro st gg w' G hw y b hy hob hb
      obtain rfl : Draw.Leave.box _ = y := Option.some.inj hy
      obtain rfl : _ = b := Option.some.inj hob
      obtain ⟨r0, r1, r2, r3⟩ := R4.of_block hb
      obtain ⟨f0, f1, f2, f3⟩ := free4 hb
      refine ⟨_, ?_, only_put4 _ 0 0 0 0 fx fy fr ga hb⟩
      clear hb
      go_simp
      rfl
    · intro st gg w' G hw y b hy hob hb
      obtain rfl : Draw.Leave.box _ = y := Option.some.inj hy
      obtain rfl : _ = b := Option.some.inj hob
      obtain ⟨r0, r1, r2, r3⟩ := R4.of_block hb
      obtain ⟨f0, f1, f2, f3⟩ := free4 hb
      refine ⟨_, ?_, only_put4 _ 0 0 0 0 fx fy fr gb hb⟩
      clear hb
      go_simp
      rfl
  intro gg w6 G6 k6 hbox hput hap
  have p8 : R4 w6 (gg 8) fx fy fr ga := R4.of_block (hput 10 8 _ rfl)
  have p9 : R4 w6 (gg 9) fx fy fr gb := R4.of_block (hput 11 9 _ rfl)
  simp only [Draw.fill, Draw.Leave.value]
  go_simp
  generalize gg 8 = b8 at *
  generalize gg 9 = b9 at *
  have S6 := Lib.hid (⟨thruS hO SV.out.1 k6.1, thru SV.out.2.1 k6.1, SV.out.2.2.2.2.1.below k6.1, SV.out.2.2.2.2.2.below k6.1, p8, p9⟩ : S w6 F p fs ∧ Below w.heap.size w w6 ∧ Wb w6 b4 { x with ht := 0 } ∧ Wb w6 b5 (flat x) ∧ R4 w6 b8 fx fy fr ga ∧ R4 w6 b9 fx fy fr gb)
  clear hbox hput hap p8 p9 k6 HS HA HB3 SV HFa HFb
  go_upto_region 8 with fail
  have HS := Lib.hid (fun (st : Nat) w' G (j : Draw.quiet w6 st w' G) => thruS hO S6.out.1 j.1)
  have HB4 := Lib.hid (fun (st : Nat) w' G (j : Draw.quiet w6 st w' G) => (S6.out.2.2.1.below j.1).at')
  have HB5 := Lib.hid (fun (st : Nat) w' G (j : Draw.quiet w6 st w' G) => (S6.out.2.2.2.1.below j.1).at')
  refine Draw.wp_region_drawn (Draw.quiet w6) 0 [.val (.pointer (some p)), .val ((Wt.v { x with ht := 0 })), .val ((Wt.v { x with ht := 0 })), .val (.agg #[.int .i64 fx, .int .i64 fy, .int .i64 fr, .int .i64 gc]), .val (.pointer (some p)), .val ((Wt.v (flat x))), .val ((Wt.v (flat x))), .val (.agg #[.int .i64 fx, .int .i64 fy, .int .i64 fr, .int .i64 gd]), .box (.cells #[.int .i64 0, .int .i64 0, .int .i64 0, .int .i64 0] 40), .box (.cells #[.int .i64 0, .int .i64 0, .int .i64 0, .int .i64 0] 40), .put 8 (.cells #[.int .i64 fx, .int .i64 fy, .int .i64 fr, .int .i64 gc] 40), .put 9 (.cells #[.int .i64 fx, .int .i64 fy, .int .i64 fr, .int .i64 gd] 40)] (by kernel_rfl) (by kernel_rfl) (by kernel_rfl) (Draw.quiet_kept w6) (Draw.quiet_start w6) ?_ ?_
  · simp only [Draw.fill, Draw.Leave.value]
    refine ⟨?_, ?_, ?_, ?_, ?_, ?_, ?_, ?_, ?_, ?_, ?_, ?_, trivial⟩
    · intro st gg w' G hw hk
      go_simp
      exact ⟨rfl, rfl⟩
    · intro st gg w' G hw hk
      have q0 := (HB4.out st w' G hw).1
      have q1 := (HB4.out st w' G hw).2.1
      have q2 := (HB4.out st w' G hw).2.2.1
      have q3 := (HB4.out st w' G hw).2.2.2.1
      have q4 := (HB4.out st w' G hw).2.2.2.2.1
      have q5 := (HB4.out st w' G hw).2.2.2.2.2.1
      have q6 := (HB4.out st w' G hw).2.2.2.2.2.2
      go_simp
      exact ⟨rfl, rfl⟩
    · intro st gg w' G hw hk
      go_simp
      exact Draw.stays_call (wantOf_any { x with ht := 0 } w')
    · intro st gg w' G hw hk
      go_simp
      exact Draw.stays_call (HFc.out w' _ _ (HS.out st w' G hw))
    · intro st gg w' G hw hk
      go_simp
      exact ⟨rfl, rfl⟩
    · intro st gg w' G hw hk
      have q0 := (HB5.out st w' G hw).1
      have q1 := (HB5.out st w' G hw).2.1
      have q2 := (HB5.out st w' G hw).2.2.1
      have q3 := (HB5.out st w' G hw).2.2.2.1
      have q4 := (HB5.out st w' G hw).2.2.2.2.1
      have q5 := (HB5.out st w' G hw).2.2.2.2.2.1
      have q6 := (HB5.out st w' G hw).2.2.2.2.2.2
      go_simp
      exact ⟨rfl, rfl⟩
    · intro st gg w' G hw hk
      go_simp
      exact Draw.stays_call (wantOf_any (flat x) w')
    · intro st gg w' G hw hk
      go_simp
      exact Draw.stays_call (HFd.out w' _ _ (HS.out st w' G hw))
    · intro st gg w' G hw hk
      go_simp
    · intro st gg w' G hw hk
      go_simp
    · intro st gg w' G hw y b hy hob hb
      obtain rfl : Draw.Leave.box _ = y := Option.some.inj hy
      obtain rfl : _ = b := Option.some.inj hob
      obtain ⟨r0, r1, r2, r3⟩ := R4.of_block hb
      obtain ⟨f0, f1, f2, f3⟩ := free4 hb
      refine ⟨_, ?_, only_put4 _ 0 0 0 0 fx fy fr gc hb⟩
      clear hb
      go_simp
      rfl
    · intro st gg w' G hw y b hy hob hb
      obtain rfl : Draw.Leave.box _ = y := Option.some.inj hy
      obtain rfl : _ = b := Option.some.inj hob
      obtain ⟨r0, r1, r2, r3⟩ := R4.of_block hb
      obtain ⟨f0, f1, f2, f3⟩ := free4 hb
      refine ⟨_, ?_, only_put4 _ 0 0 0 0 fx fy fr gd hb⟩
      clear hb
      go_simp
      rfl
  intro gg w7 G7 k7 hbox hput hap
  have p8 : R4 w7 (gg 8) fx fy fr gc := R4.of_block (hput 10 8 _ rfl)
  have p9 : R4 w7 (gg 9) fx fy fr gd := R4.of_block (hput 11 9 _ rfl)
  simp only [Draw.fill, Draw.Leave.value]
  go_simp
  generalize gg 8 = b10 at *
  generalize gg 9 = b11 at *
  have S7 := Lib.hid (⟨thru S6.out.2.1 k7.1, S6.out.2.2.2.2.1.below k7.1, S6.out.2.2.2.2.2.below k7.1, p8, p9⟩ : Below w.heap.size w w7 ∧ R4 w7 b8 fx fy fr ga ∧ R4 w7 b9 fx fy fr gb ∧ R4 w7 b10 fx fy fr gc ∧ R4 w7 b11 fx fy fr gd)
  clear hbox hput hap p8 p9 k7 HS HB4 HB5 S6 HFc HFd
  obtain ⟨a0, a1, -, -⟩ := S7.out.2.1
  obtain ⟨d0, d1, -, -⟩ := S7.out.2.2.1
  obtain ⟨e0, e1, -, -⟩ := S7.out.2.2.2.1
  obtain ⟨g0, g1, -, -⟩ := S7.out.2.2.2.2
  go_wp2_with fail
  go_ret
  exact ⟨ret_b (by simp), S7.out.1⟩

theorem tall_any (hO : SpaceOk S) (hP : PlaceOk S) (A : Option Addr) (n c : Nat) (fs : List Fl) (x : Wt) (m : Int) (w : World) (hn : n = fs.length) (hmm : n ≤ 9223372036854775807) (hx : Floats w w.heap.size A fs) (hm' : 0 ≤ m ∧ m ≤ 255) :
    Calls Try.prog 9 #[.slice A n c, x.v, .int .u8 m] w fun e w' => e = .returned (.bool true) ∧ Below w.heap.size w w' := by
  by_cases hh : (fs.all near49 && decide ((n : Int) ≤ 30)) = true
  · simp only [Bool.and_eq_true, decide_eq_true_eq] at hh
    by_cases h2 : rightW x = true
    · have hr := rightW_iff.1 h2
      by_cases hy : 140737488355328 < x.ht
      · exact tall_high hO hP A n c fs x m w hn (by omega) hx hh.1 hr hy
      · exact tall_yes hO hP A n c fs x m w hn (by omega) hx hh.1 hr hm' hy
    · exact tall_wrong hO hP A n c fs x m w hn (by omega) hx hh.1 (by simpa using h2)
  · exact tall_few hO hP A n c fs x m w hn hmm hx (by simpa using hh)

end

end Go.Proofs.Ytkabpflbedpbaaa.Place
