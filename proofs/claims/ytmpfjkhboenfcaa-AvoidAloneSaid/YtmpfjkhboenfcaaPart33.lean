/- The law: without floats a box stands where it wants; a narrower one never lower. -/
import Derived.Test.YtmpfjkhboenfcaaPart25
namespace Go.Proofs.Ytmpfjkhboenfcaa.Avoid
open Go.RowKit Go.Sort Go.Proofs.Ytmpfjkhboenfcaa.Rect Go.Proofs.Ytmpfjkhboenfcaa.More Go.Proofs.Ytmpfjkhboenfcaa.Shelf Go.Proofs.Ytmpfjkhboenfcaa.Space Go.Proofs.Ytmpfjkhboenfcaa.Place
set_option linter.unusedVariables false
set_option linter.unusedSimpArgs false

section
variable {S : World → (Nat → Prop) → Addr → List Fl → Prop}

set_option maxRecDepth 100000 in
set_option maxHeartbeats 1000000 in
theorem valone_few (hO : SpaceOk S) (hP : AvoidOk S) (A : Option Addr) (n c : Nat) (fs : List Fl) (x : Vt) (l : Int) (w : World) (hn : n = fs.length) (hlen : n ≤ 9223372036854775807) (hx : Floats w w.heap.size A fs) (hv : (fs.all near49 && decide ((n : Int) ≤ 30)) = false) :
    Calls Try.prog 6 #[.slice A n c, x.v, .int .u8 l] w fun e w' => e = .returned (.bool true) ∧ Below w.heap.size w w' := by
  have HBe := Lib.hid (fun w1 (k : Below w.heap.size w w1) => vbegin_no A n c fs 30 w1 hn hlen (hx.thru k) hv)
  clear hn hx hv
  go_enter Try.func6, Try.ntmps6
  go_upto_region 1 with fail
  generalize hW1 : World.alloc w _ = W
  obtain ⟨b0, hb0⟩ : ∃ b0, w.heap.size = b0 := ⟨_, rfl⟩
  have KW := Lib.hid (show Below w.heap.size w W by rw [← hW1]; exact ba1 _ _)
  have AW := Lib.hid (show AtV W b0 x by rw [← hW1, ← hb0]; exact atV_boxed _ _ _)
  rw [hb0]
  clear hW1 hb0
  go_upto_region 4 with (first
    | (go_at_call 9; refine (HBe.out _ KW.out).mono ?_; rintro e w2 ⟨rfl, k2⟩; have K2 := Lib.hid (thru KW.out k2); clear k2)
    | (go_at_call 20; refine (hO.new _).mono ?_; rintro e wn ⟨⟨pn, Fn, rfl, hN, hG⟩, kn⟩; have Kn := Lib.hid (thru K2.out kn); clear hN hG kn)
    | (go_at_call 10; refine (vspeaks hO hP _).mono ?_; rintro e w3 ⟨rfl, k3⟩; have K3 := Lib.hid (thru Kn.out k3); clear k3))
  go_wp2_with (first
    | (go_at_call 10; refine (vspeaks hO hP _).mono ?_; rintro e w9 ⟨rfl, k9⟩; have K9 := Lib.hid (thru K3.out k9); clear k9))
  go_ret
  exact ⟨rfl, K9.out⟩

set_option maxRecDepth 100000 in
set_option maxHeartbeats 1000000 in
theorem valone_wrong (hO : SpaceOk S) (hP : AvoidOk S) (A : Option Addr) (n c : Nat) (fs : List Fl) (x : Vt) (l : Int) (w : World) (hn : n = fs.length) (hlen : n ≤ 30) (hx : Floats w w.heap.size A fs) (h49 : fs.all near49 = true) (hr : rightV x = false) :
    Calls Try.prog 6 #[.slice A n c, x.v, .int .u8 l] w fun e w' => e = .returned (.bool true) ∧ Below w.heap.size w w' := by
  have HBe := Lib.hid (fun w1 (k : Below w.heap.size w w1) => vbegin_any hO A n c fs 30 w1 hn (by omega) (by omega) (hx.thru k) h49)
  have HRi := Lib.hid (fun w => vright_is x false hr w)
  clear hn hx h49
  go_enter Try.func6, Try.ntmps6
  go_upto_region 1 with fail
  generalize hW1 : World.alloc w _ = W
  obtain ⟨b0, hb0⟩ : ∃ b0, w.heap.size = b0 := ⟨_, rfl⟩
  have KW := Lib.hid (show Below w.heap.size w W by rw [← hW1]; exact ba1 _ _)
  have AW := Lib.hid (show AtV W b0 x by rw [← hW1, ← hb0]; exact atV_boxed _ _ _)
  rw [hb0]
  clear hW1 hb0
  go_upto_region 4 with (first
    | (go_at_call 9; refine (HBe.out _ KW.out).mono ?_; rintro e w2 ⟨⟨p, F, rfl, hL, hF⟩, k2⟩; have S2 := Lib.hid (⟨hL, thru KW.out k2, AW.out.below k2⟩ : S w2 F p fs ∧ Below w.heap.size w w2 ∧ AtV w2 b0 x); clear hL hF k2)
    | (go_at_call 20; refine (hO.new _).mono ?_; rintro e wn ⟨⟨pn, Fn, rfl, hN, hG⟩, kn⟩; have Sn := Lib.hid (⟨thruS hO S2.out.1 kn, thru S2.out.2.1 kn, S2.out.2.2.below kn, hN⟩ : S wn F p fs ∧ Below w.heap.size w wn ∧ AtV wn b0 x ∧ S wn Fn pn []); clear hN hG kn)
    | (go_at_call 10; refine (vspeaks hO hP _).mono ?_; rintro e w3 ⟨rfl, k3⟩; have S3 := Lib.hid (⟨thruS hO Sn.out.1 k3, thru Sn.out.2.1 k3, Sn.out.2.2.1.below k3, thruS hO Sn.out.2.2.2 k3⟩ : S w3 F p fs ∧ Below w.heap.size w w3 ∧ AtV w3 b0 x ∧ S w3 Fn pn []); obtain ⟨c0, c1, c2, c3, c4⟩ := S3.out.2.2.1; clear k3)
    | (go_at_call 11; refine (HRi.out _).mono ?_; rintro e w4 ⟨rfl, k4⟩; have S4 := Lib.hid (⟨thruS hO S3.out.1 k4, thru S3.out.2.1 k4, S3.out.2.2.1.below k4, thruS hO S3.out.2.2.2 k4⟩ : S w4 F p fs ∧ Below w.heap.size w w4 ∧ AtV w4 b0 x ∧ S w4 Fn pn []); clear k4))
  go_wp2_with (first
    | (go_at_call 10; refine (vspeaks hO hP _).mono ?_; rintro e w9 ⟨rfl, k9⟩; have K9 := Lib.hid (thru S4.out.2.1 k9); clear k9))
  go_ret
  exact ⟨rfl, K9.out⟩

set_option maxRecDepth 100000 in
set_option maxHeartbeats 1000000 in
theorem valone_zero (hO : SpaceOk S) (hP : AvoidOk S) (A : Option Addr) (n c : Nat) (fs : List Fl) (x : Vt) (l : Int) (w : World) (hn : n = fs.length) (hlen : n ≤ 30) (hx : Floats w w.heap.size A fs) (h49 : fs.all near49 = true) (hr : RightV x) (hl : 0 ≤ l ∧ l ≤ 255) (hc : x.wd - l ≤ 0) :
    Calls Try.prog 6 #[.slice A n c, x.v, .int .u8 l] w fun e w' => e = .returned (.bool true) ∧ Below w.heap.size w w' := by
  have HBe := Lib.hid (fun w1 (k : Below w.heap.size w w1) => vbegin_any hO A n c fs 30 w1 hn (by omega) (by omega) (hx.thru k) h49)
  have HRi := Lib.hid (fun w => vright_is x true (rightV_iff.2 hr) w)
  have hh0 := hr.wd1
  have hh1 := hr.wd2
  have hrn : RightV { x with wd := 0 } := ⟨hr.f1, hr.f2, hr.t1, hr.t2, show 0 ≤ 0 by omega, show 0 ≤ 281474976710656 by omega, hr.ht1, hr.ht2, hr.y1, hr.y2⟩
  have HF0 := Lib.hid (fun w1 F p (h : S w1 F p []) => hP.find w1 F p [] x h rfl hr)
  have HFa := Lib.hid (fun w1 F p (h : S w1 F p fs) => hP.find w1 F p fs x h h49 hr)
  have HFb := Lib.hid (fun w1 F p (h : S w1 F p fs) => hP.find w1 F p fs { x with wd := 0 } h h49 hrn)
  have hle := avoid_narrow h49 hr hrn (show 0 ≤ x.wd by omega)
  unfold boxV at HF0 HFa HFb
  rw [(avoid_none hr).1, (avoid_none hr).2] at HF0
  generalize findVX fs x = xa at *
  generalize findVX fs { x with wd := 0 } = xb at *
  generalize findVY fs x = ya at *
  generalize findVY fs { x with wd := 0 } = yb at *
  obtain ⟨r0, hr0⟩ : ∃ r0, x.f + x.wd = r0 := ⟨_, rfl⟩
  obtain ⟨z0, hz0⟩ : ∃ z0, x.y + x.ht = z0 := ⟨_, rfl⟩
  obtain ⟨ra, hra⟩ : ∃ ra, xa + x.wd = ra := ⟨_, rfl⟩
  obtain ⟨rb, hrb⟩ : ∃ rb, xb + (0) = rb := ⟨_, rfl⟩
  obtain ⟨ba, hba⟩ : ∃ ba, ya + x.ht = ba := ⟨_, rfl⟩
  obtain ⟨bb, hbb⟩ : ∃ bb, yb + x.ht = bb := ⟨_, rfl⟩
  replace HF0 : Hid (∀ w1 F p, S w1 F p [] → Calls Try.prog 15 #[.pointer (some p), x.v] w1 fun r w' => r = .returned (.agg #[.int .i64 x.f, .int .i64 x.y, .int .i64 r0, .int .i64 z0]) ∧ Below w1.heap.size w1 w') := Lib.hid (fun w1 F p h => by rw [← hr0, ← hz0]; exact HF0.out w1 F p h)
  replace HFa : Hid (∀ w1 F p, S w1 F p fs → Calls Try.prog 15 #[.pointer (some p), x.v] w1 fun r w' => r = .returned (.agg #[.int .i64 xa, .int .i64 ya, .int .i64 ra, .int .i64 ba]) ∧ Below w1.heap.size w1 w') := Lib.hid (fun w1 F p h => by rw [← hra, ← hba]; exact HFa.out w1 F p h)
  replace HFb : Hid (∀ w1 F p, S w1 F p fs → Calls Try.prog 15 #[.pointer (some p), Vt.v { x with wd := 0 }] w1 fun r w' => r = .returned (.agg #[.int .i64 xb, .int .i64 yb, .int .i64 rb, .int .i64 bb]) ∧ Below w1.heap.size w1 w') := Lib.hid (fun w1 F p h => by rw [← hrb, ← hbb]; exact HFb.out w1 F p h)
  have hw0 : IntKind.i64.wrap l = l := IntWalk.i64_in _ (by omega)
  have hw2 : IntKind.i64.wrap (x.wd - l) = x.wd - l := IntWalk.i64_in _ (by omega)
  have HW := Lib.hid (⟨hw0, hw2⟩ : IntKind.i64.wrap l = l ∧ IntKind.i64.wrap (x.wd - l) = x.wd - l)
  have HLE := Lib.hid hle
  clear hn hx h49 hr hh0 hh1 hrn hw0 hw2 hl hr0 hz0 hra hrb hba hbb hle
  go_enter Try.func6, Try.ntmps6
  go_upto_region 1 with fail
  generalize hW1 : World.alloc w _ = W
  obtain ⟨b0, hb0⟩ : ∃ b0, w.heap.size = b0 := ⟨_, rfl⟩
  have KW := Lib.hid (show Below w.heap.size w W by rw [← hW1]; exact ba1 _ _)
  have AW := Lib.hid (show AtV W b0 x by rw [← hW1, ← hb0]; exact atV_boxed _ _ _)
  rw [hb0]
  clear hW1 hb0
  go_upto_region 5 with (first
    | (go_at_call 9; refine (HBe.out _ KW.out).mono ?_; rintro e w2 ⟨⟨p, F, rfl, hL, hF⟩, k2⟩; have S2 := Lib.hid (⟨hL, thru KW.out k2, AW.out.below k2⟩ : S w2 F p fs ∧ Below w.heap.size w w2 ∧ AtV w2 b0 x); clear hL hF k2)
    | (go_at_call 20; refine (hO.new _).mono ?_; rintro e wn ⟨⟨pn, Fn, rfl, hN, hG⟩, kn⟩; have Sn := Lib.hid (⟨thruS hO S2.out.1 kn, thru S2.out.2.1 kn, S2.out.2.2.below kn, hN⟩ : S wn F p fs ∧ Below w.heap.size w wn ∧ AtV wn b0 x ∧ S wn Fn pn []); clear hN hG kn)
    | (go_at_call 10; refine (vspeaks hO hP _).mono ?_; rintro e w3 ⟨rfl, k3⟩; have S3 := Lib.hid (⟨thruS hO Sn.out.1 k3, thru Sn.out.2.1 k3, Sn.out.2.2.1.below k3, thruS hO Sn.out.2.2.2 k3⟩ : S w3 F p fs ∧ Below w.heap.size w w3 ∧ AtV w3 b0 x ∧ S w3 Fn pn []); obtain ⟨c0, c1, c2, c3, c4⟩ := S3.out.2.2.1; clear k3)
    | (go_at_call 11; refine (HRi.out _).mono ?_; rintro e w4 ⟨rfl, k4⟩; have S4 := Lib.hid (⟨thruS hO S3.out.1 k4, thru S3.out.2.1 k4, S3.out.2.2.1.below k4, thruS hO S3.out.2.2.2 k4⟩ : S w4 F p fs ∧ Below w.heap.size w w4 ∧ AtV w4 b0 x ∧ S w4 Fn pn []); clear k4))
  clear c0 c1 c2 c3 c4
  obtain ⟨c0, c1, c2, c3, c4⟩ := S4.out.2.2.1
  go_upto_region 6 with (first
    | (go_at_call 13; refine (vwantOf_any x _).mono ?_; rintro e w5 ⟨rfl, k5⟩; have S5 := Lib.hid (⟨thruS hO S4.out.1 k5, thru S4.out.2.1 k5, S4.out.2.2.1.below k5, thruS hO S4.out.2.2.2 k5⟩ : S w5 F p fs ∧ Below w.heap.size w w5 ∧ AtV w5 b0 x ∧ S w5 Fn pn []); clear k5)
    | (go_at_call 15; refine (HF0.out _ _ _ S5.out.2.2.2).mono ?_; rintro e w6 ⟨rfl, k6⟩; have S6 := Lib.hid (⟨thruS hO S5.out.1 k6, thru S5.out.2.1 k6, S5.out.2.2.1.below k6⟩ : S w6 F p fs ∧ Below w.heap.size w w6 ∧ AtV w6 b0 x); clear k6))
  clear c0 c1 c2 c3 c4
  generalize hW7 : World.alloc w6 _ = W7
  obtain ⟨b1, hb1⟩ : ∃ b1, w6.heap.size = b1 := ⟨_, rfl⟩
  have k7 : Below w6.heap.size w6 W7 := by rw [← hW7]; exact ba1 _ _
  have r7 : R4 W7 b1 x.f x.y r0 z0 := by rw [← hW7, ← hb1]; exact R4.of_block (heap_alloc_new w6 _)
  have S7 := Lib.hid (⟨thruS hO S6.out.1 k7, thru S6.out.2.1 k7, S6.out.2.2.below k7, r7⟩ : S W7 F p fs ∧ Below w.heap.size w W7 ∧ AtV W7 b0 x ∧ R4 W7 b1 x.f x.y r0 z0)
  rw [hb1]
  clear hW7 hb1 k7 r7
  obtain ⟨c0, c1, c2, c3, c4⟩ := S7.out.2.2.1
  obtain ⟨r0, r1, r2, r3⟩ := S7.out.2.2.2
  go_upto_region 8 with fail
  go_upto_region 9 with fail
  clear c0 c1 c2 c3 c4 r0 r1 r2 r3
  generalize hW8 : World.alloc W7 _ = W8
  obtain ⟨b2, hb2⟩ : ∃ b2, W7.heap.size = b2 := ⟨_, rfl⟩
  have k8 : Below W7.heap.size W7 W8 := by rw [← hW8]; exact ba1 _ _
  have p8 : Wv 24 W8 b2 x := by rw [← hW8, ← hb2]; exact heap_alloc_new W7 _
  have S8 := Lib.hid (⟨k8, S7.out.2.2.1.below k8, p8, by omega⟩ : Below W7.heap.size W7 W8 ∧ AtV W8 b0 x ∧ Wv 24 W8 b2 x ∧ W7.heap.size ≤ b2)
  rw [hb2]
  clear hW8 hb2 k8 p8
  obtain ⟨-, -, c2, -, -⟩ := S8.out.2.1
  obtain ⟨-, -, d2, -, -⟩ := S8.out.2.2.1.at'
  obtain ⟨-, -, f2, -, -⟩ := S8.out.2.2.1.free
  obtain ⟨hw0, hw2⟩ := HW.out
  go_upto_region 10 with fail
  clear c2 d2 f2 hw0 hw2 hc
  have kV := S8.out.1.setCell (p := ⟨b2, 2, none⟩) S8.out.2.2.2 (.int .i64 (0))
  have v3 := S8.out.2.2.1.set2 (0)
  generalize hV : W8.setCell ⟨b2, 2, none⟩ (.int .i64 (0)) = V at *
  have SV := Lib.hid (⟨thruS hO S7.out.1 kV, thru S7.out.2.1 kV, S7.out.2.2.1.below kV, v3⟩ : S V F p fs ∧ Below w.heap.size w V ∧ AtV V b0 x ∧ Wv 24 V b2 { x with wd := 0 })
  clear hV kV v3
  have HS := Lib.hid (fun (st : Nat) w' G (j : Draw.quiet V st w' G) => thruS hO SV.out.1 j.1)
  have HA := Lib.hid (fun (st : Nat) w' G (j : Draw.quiet V st w' G) => SV.out.2.2.1.below j.1)
  have HB3 := Lib.hid (fun (st : Nat) w' G (j : Draw.quiet V st w' G) => (SV.out.2.2.2.below j.1).at')
  refine Draw.wp_region_drawn (Draw.quiet V) 0 [.val (.pointer (some p)), .val ((Vt.v x)), .val ((Vt.v x)), .val (.agg #[.int .i64 xa, .int .i64 ya, .int .i64 ra, .int .i64 ba]), .val (.pointer (some p)), .val ((Vt.v { x with wd := 0 })), .val ((Vt.v { x with wd := 0 })), .val (.agg #[.int .i64 xb, .int .i64 yb, .int .i64 rb, .int .i64 bb]), .box (.cells #[.int .i64 0, .int .i64 0, .int .i64 0, .int .i64 0] 38), .box (.cells #[.int .i64 0, .int .i64 0, .int .i64 0, .int .i64 0] 38), .put 8 (.cells #[.int .i64 xa, .int .i64 ya, .int .i64 ra, .int .i64 ba] 38), .put 9 (.cells #[.int .i64 xb, .int .i64 yb, .int .i64 rb, .int .i64 bb] 38)] (by kernel_rfl) (by kernel_rfl) (by kernel_rfl) (Draw.quiet_kept V) (Draw.quiet_start V) ?_ ?_
  · simp only [Draw.fill, Draw.Leave.value]
    refine ⟨?_, ?_, ?_, ?_, ?_, ?_, ?_, ?_, ?_, ?_, ?_, ?_, trivial⟩
    · intro st gg w' G hw hk
      go_simp
      exact ⟨rfl, rfl⟩
    · intro st gg w' G hw hk
      have q0 := (HA.out st w' G hw).1
      have q1 := (HA.out st w' G hw).2.1
      have q2 := (HA.out st w' G hw).2.2.1
      have q3 := (HA.out st w' G hw).2.2.2.1
      have q4 := (HA.out st w' G hw).2.2.2.2
      go_simp
      exact ⟨rfl, rfl⟩
    · intro st gg w' G hw hk
      go_simp
      exact Draw.stays_call (vwantOf_any x w')
    · intro st gg w' G hw hk
      go_simp
      exact Draw.stays_call (HFa.out w' _ _ (HS.out st w' G hw))
    · intro st gg w' G hw hk
      go_simp
      exact ⟨rfl, rfl⟩
    · intro st gg w' G hw hk
      have q0 := (HB3.out st w' G hw).1
      have q1 := (HB3.out st w' G hw).2.1
      have q2 := (HB3.out st w' G hw).2.2.1
      have q3 := (HB3.out st w' G hw).2.2.2.1
      have q4 := (HB3.out st w' G hw).2.2.2.2
      go_simp
      exact ⟨rfl, rfl⟩
    · intro st gg w' G hw hk
      go_simp
      exact Draw.stays_call (vwantOf_any { x with wd := 0 } w')
    · intro st gg w' G hw hk
      go_simp
      exact Draw.stays_call (HFb.out w' _ _ (HS.out st w' G hw))
    · intro st gg w' G hw hk
      go_simp
    · intro st gg w' G hw hk
      go_simp
    · intro st gg w' G hw y b hy hob hb
      obtain rfl : Draw.Leave.box _ = y := Option.some.inj hy
      obtain rfl : _ = b := Option.some.inj hob
      obtain ⟨r0, r1, r2, r3⟩ := R4.of_block hb
      obtain ⟨f0, f1, f2, f3⟩ := free4 hb
      refine ⟨_, ?_, only_put4 _ 0 0 0 0 xa ya ra ba hb⟩
      clear hb
      go_simp
      rfl
    · intro st gg w' G hw y b hy hob hb
      obtain rfl : Draw.Leave.box _ = y := Option.some.inj hy
      obtain rfl : _ = b := Option.some.inj hob
      obtain ⟨r0, r1, r2, r3⟩ := R4.of_block hb
      obtain ⟨f0, f1, f2, f3⟩ := free4 hb
      refine ⟨_, ?_, only_put4 _ 0 0 0 0 xb yb rb bb hb⟩
      clear hb
      go_simp
      rfl
  intro gg w9 G9 k9 hbox hput hap
  have p8 : R4 w9 (gg 8) xa ya ra ba := R4.of_block (hput 10 8 _ rfl)
  have p9 : R4 w9 (gg 9) xb yb rb bb := R4.of_block (hput 11 9 _ rfl)
  simp only [Draw.fill, Draw.Leave.value]
  go_simp
  generalize gg 8 = b8 at *
  generalize gg 9 = b9 at *
  have K9 := Lib.hid (thru SV.out.2.1 k9.1)
  clear hbox hput hap k9 HS HA HB3 SV HFa HFb
  obtain ⟨-, a1, -, -⟩ := p8
  obtain ⟨-, d1, -, -⟩ := p9
  have hle := HLE.out
  go_wp2_with fail
  go_ret
  exact ⟨ret_b (by simp [hle]), K9.out⟩

set_option maxRecDepth 100000 in
set_option maxHeartbeats 1000000 in
theorem valone_less (hO : SpaceOk S) (hP : AvoidOk S) (A : Option Addr) (n c : Nat) (fs : List Fl) (x : Vt) (l : Int) (w : World) (hn : n = fs.length) (hlen : n ≤ 30) (hx : Floats w w.heap.size A fs) (h49 : fs.all near49 = true) (hr : RightV x) (hl : 0 ≤ l ∧ l ≤ 255) (hc : 0 < x.wd - l) :
    Calls Try.prog 6 #[.slice A n c, x.v, .int .u8 l] w fun e w' => e = .returned (.bool true) ∧ Below w.heap.size w w' := by
  have HBe := Lib.hid (fun w1 (k : Below w.heap.size w w1) => vbegin_any hO A n c fs 30 w1 hn (by omega) (by omega) (hx.thru k) h49)
  have HRi := Lib.hid (fun w => vright_is x true (rightV_iff.2 hr) w)
  have hh0 := hr.wd1
  have hh1 := hr.wd2
  have hrn : RightV { x with wd := x.wd - l } := ⟨hr.f1, hr.f2, hr.t1, hr.t2, show 0 ≤ x.wd - l by omega, show x.wd - l ≤ 281474976710656 by omega, hr.ht1, hr.ht2, hr.y1, hr.y2⟩
  have HF0 := Lib.hid (fun w1 F p (h : S w1 F p []) => hP.find w1 F p [] x h rfl hr)
  have HFa := Lib.hid (fun w1 F p (h : S w1 F p fs) => hP.find w1 F p fs x h h49 hr)
  have HFb := Lib.hid (fun w1 F p (h : S w1 F p fs) => hP.find w1 F p fs { x with wd := x.wd - l } h h49 hrn)
  have hle := avoid_narrow h49 hr hrn (show x.wd - l ≤ x.wd by omega)
  unfold boxV at HF0 HFa HFb
  rw [(avoid_none hr).1, (avoid_none hr).2] at HF0
  generalize findVX fs x = xa at *
  generalize findVX fs { x with wd := x.wd - l } = xb at *
  generalize findVY fs x = ya at *
  generalize findVY fs { x with wd := x.wd - l } = yb at *
  obtain ⟨r0, hr0⟩ : ∃ r0, x.f + x.wd = r0 := ⟨_, rfl⟩
  obtain ⟨z0, hz0⟩ : ∃ z0, x.y + x.ht = z0 := ⟨_, rfl⟩
  obtain ⟨ra, hra⟩ : ∃ ra, xa + x.wd = ra := ⟨_, rfl⟩
  obtain ⟨rb, hrb⟩ : ∃ rb, xb + (x.wd - l) = rb := ⟨_, rfl⟩
  obtain ⟨ba, hba⟩ : ∃ ba, ya + x.ht = ba := ⟨_, rfl⟩
  obtain ⟨bb, hbb⟩ : ∃ bb, yb + x.ht = bb := ⟨_, rfl⟩
  replace HF0 : Hid (∀ w1 F p, S w1 F p [] → Calls Try.prog 15 #[.pointer (some p), x.v] w1 fun r w' => r = .returned (.agg #[.int .i64 x.f, .int .i64 x.y, .int .i64 r0, .int .i64 z0]) ∧ Below w1.heap.size w1 w') := Lib.hid (fun w1 F p h => by rw [← hr0, ← hz0]; exact HF0.out w1 F p h)
  replace HFa : Hid (∀ w1 F p, S w1 F p fs → Calls Try.prog 15 #[.pointer (some p), x.v] w1 fun r w' => r = .returned (.agg #[.int .i64 xa, .int .i64 ya, .int .i64 ra, .int .i64 ba]) ∧ Below w1.heap.size w1 w') := Lib.hid (fun w1 F p h => by rw [← hra, ← hba]; exact HFa.out w1 F p h)
  replace HFb : Hid (∀ w1 F p, S w1 F p fs → Calls Try.prog 15 #[.pointer (some p), Vt.v { x with wd := x.wd - l }] w1 fun r w' => r = .returned (.agg #[.int .i64 xb, .int .i64 yb, .int .i64 rb, .int .i64 bb]) ∧ Below w1.heap.size w1 w') := Lib.hid (fun w1 F p h => by rw [← hrb, ← hbb]; exact HFb.out w1 F p h)
  have hw0 : IntKind.i64.wrap l = l := IntWalk.i64_in _ (by omega)
  have hw2 : IntKind.i64.wrap (x.wd - l) = x.wd - l := IntWalk.i64_in _ (by omega)
  have HW := Lib.hid (⟨hw0, hw2⟩ : IntKind.i64.wrap l = l ∧ IntKind.i64.wrap (x.wd - l) = x.wd - l)
  have HLE := Lib.hid hle
  clear hn hx h49 hr hh0 hh1 hrn hw0 hw2 hl hr0 hz0 hra hrb hba hbb hle
  go_enter Try.func6, Try.ntmps6
  go_upto_region 1 with fail
  generalize hW1 : World.alloc w _ = W
  obtain ⟨b0, hb0⟩ : ∃ b0, w.heap.size = b0 := ⟨_, rfl⟩
  have KW := Lib.hid (show Below w.heap.size w W by rw [← hW1]; exact ba1 _ _)
  have AW := Lib.hid (show AtV W b0 x by rw [← hW1, ← hb0]; exact atV_boxed _ _ _)
  rw [hb0]
  clear hW1 hb0
  go_upto_region 5 with (first
    | (go_at_call 9; refine (HBe.out _ KW.out).mono ?_; rintro e w2 ⟨⟨p, F, rfl, hL, hF⟩, k2⟩; have S2 := Lib.hid (⟨hL, thru KW.out k2, AW.out.below k2⟩ : S w2 F p fs ∧ Below w.heap.size w w2 ∧ AtV w2 b0 x); clear hL hF k2)
    | (go_at_call 20; refine (hO.new _).mono ?_; rintro e wn ⟨⟨pn, Fn, rfl, hN, hG⟩, kn⟩; have Sn := Lib.hid (⟨thruS hO S2.out.1 kn, thru S2.out.2.1 kn, S2.out.2.2.below kn, hN⟩ : S wn F p fs ∧ Below w.heap.size w wn ∧ AtV wn b0 x ∧ S wn Fn pn []); clear hN hG kn)
    | (go_at_call 10; refine (vspeaks hO hP _).mono ?_; rintro e w3 ⟨rfl, k3⟩; have S3 := Lib.hid (⟨thruS hO Sn.out.1 k3, thru Sn.out.2.1 k3, Sn.out.2.2.1.below k3, thruS hO Sn.out.2.2.2 k3⟩ : S w3 F p fs ∧ Below w.heap.size w w3 ∧ AtV w3 b0 x ∧ S w3 Fn pn []); obtain ⟨c0, c1, c2, c3, c4⟩ := S3.out.2.2.1; clear k3)
    | (go_at_call 11; refine (HRi.out _).mono ?_; rintro e w4 ⟨rfl, k4⟩; have S4 := Lib.hid (⟨thruS hO S3.out.1 k4, thru S3.out.2.1 k4, S3.out.2.2.1.below k4, thruS hO S3.out.2.2.2 k4⟩ : S w4 F p fs ∧ Below w.heap.size w w4 ∧ AtV w4 b0 x ∧ S w4 Fn pn []); clear k4))
  clear c0 c1 c2 c3 c4
  obtain ⟨c0, c1, c2, c3, c4⟩ := S4.out.2.2.1
  go_upto_region 6 with (first
    | (go_at_call 13; refine (vwantOf_any x _).mono ?_; rintro e w5 ⟨rfl, k5⟩; have S5 := Lib.hid (⟨thruS hO S4.out.1 k5, thru S4.out.2.1 k5, S4.out.2.2.1.below k5, thruS hO S4.out.2.2.2 k5⟩ : S w5 F p fs ∧ Below w.heap.size w w5 ∧ AtV w5 b0 x ∧ S w5 Fn pn []); clear k5)
    | (go_at_call 15; refine (HF0.out _ _ _ S5.out.2.2.2).mono ?_; rintro e w6 ⟨rfl, k6⟩; have S6 := Lib.hid (⟨thruS hO S5.out.1 k6, thru S5.out.2.1 k6, S5.out.2.2.1.below k6⟩ : S w6 F p fs ∧ Below w.heap.size w w6 ∧ AtV w6 b0 x); clear k6))
  clear c0 c1 c2 c3 c4
  generalize hW7 : World.alloc w6 _ = W7
  obtain ⟨b1, hb1⟩ : ∃ b1, w6.heap.size = b1 := ⟨_, rfl⟩
  have k7 : Below w6.heap.size w6 W7 := by rw [← hW7]; exact ba1 _ _
  have r7 : R4 W7 b1 x.f x.y r0 z0 := by rw [← hW7, ← hb1]; exact R4.of_block (heap_alloc_new w6 _)
  have S7 := Lib.hid (⟨thruS hO S6.out.1 k7, thru S6.out.2.1 k7, S6.out.2.2.below k7, r7⟩ : S W7 F p fs ∧ Below w.heap.size w W7 ∧ AtV W7 b0 x ∧ R4 W7 b1 x.f x.y r0 z0)
  rw [hb1]
  clear hW7 hb1 k7 r7
  obtain ⟨c0, c1, c2, c3, c4⟩ := S7.out.2.2.1
  obtain ⟨r0, r1, r2, r3⟩ := S7.out.2.2.2
  go_upto_region 8 with fail
  go_upto_region 9 with fail
  clear c0 c1 c2 c3 c4 r0 r1 r2 r3
  generalize hW8 : World.alloc W7 _ = W8
  obtain ⟨b2, hb2⟩ : ∃ b2, W7.heap.size = b2 := ⟨_, rfl⟩
  have k8 : Below W7.heap.size W7 W8 := by rw [← hW8]; exact ba1 _ _
  have p8 : Wv 24 W8 b2 x := by rw [← hW8, ← hb2]; exact heap_alloc_new W7 _
  have S8 := Lib.hid (⟨k8, S7.out.2.2.1.below k8, p8, by omega⟩ : Below W7.heap.size W7 W8 ∧ AtV W8 b0 x ∧ Wv 24 W8 b2 x ∧ W7.heap.size ≤ b2)
  rw [hb2]
  clear hW8 hb2 k8 p8
  obtain ⟨-, -, c2, -, -⟩ := S8.out.2.1
  obtain ⟨-, -, d2, -, -⟩ := S8.out.2.2.1.at'
  obtain ⟨-, -, f2, -, -⟩ := S8.out.2.2.1.free
  obtain ⟨hw0, hw2⟩ := HW.out
  go_upto_region 10 with fail
  clear c2 d2 f2 hw0 hw2 hc
  have kV := S8.out.1.setCell (p := ⟨b2, 2, none⟩) S8.out.2.2.2 (.int .i64 (x.wd - l))
  have v3 := S8.out.2.2.1.set2 (x.wd - l)
  generalize hV : W8.setCell ⟨b2, 2, none⟩ (.int .i64 (x.wd - l)) = V at *
  have SV := Lib.hid (⟨thruS hO S7.out.1 kV, thru S7.out.2.1 kV, S7.out.2.2.1.below kV, v3⟩ : S V F p fs ∧ Below w.heap.size w V ∧ AtV V b0 x ∧ Wv 24 V b2 { x with wd := x.wd - l })
  clear hV kV v3
  have HS := Lib.hid (fun (st : Nat) w' G (j : Draw.quiet V st w' G) => thruS hO SV.out.1 j.1)
  have HA := Lib.hid (fun (st : Nat) w' G (j : Draw.quiet V st w' G) => SV.out.2.2.1.below j.1)
  have HB3 := Lib.hid (fun (st : Nat) w' G (j : Draw.quiet V st w' G) => (SV.out.2.2.2.below j.1).at')
  refine Draw.wp_region_drawn (Draw.quiet V) 0 [.val (.pointer (some p)), .val ((Vt.v x)), .val ((Vt.v x)), .val (.agg #[.int .i64 xa, .int .i64 ya, .int .i64 ra, .int .i64 ba]), .val (.pointer (some p)), .val ((Vt.v { x with wd := x.wd - l })), .val ((Vt.v { x with wd := x.wd - l })), .val (.agg #[.int .i64 xb, .int .i64 yb, .int .i64 rb, .int .i64 bb]), .box (.cells #[.int .i64 0, .int .i64 0, .int .i64 0, .int .i64 0] 38), .box (.cells #[.int .i64 0, .int .i64 0, .int .i64 0, .int .i64 0] 38), .put 8 (.cells #[.int .i64 xa, .int .i64 ya, .int .i64 ra, .int .i64 ba] 38), .put 9 (.cells #[.int .i64 xb, .int .i64 yb, .int .i64 rb, .int .i64 bb] 38)] (by kernel_rfl) (by kernel_rfl) (by kernel_rfl) (Draw.quiet_kept V) (Draw.quiet_start V) ?_ ?_
  · simp only [Draw.fill, Draw.Leave.value]
    refine ⟨?_, ?_, ?_, ?_, ?_, ?_, ?_, ?_, ?_, ?_, ?_, ?_, trivial⟩
    · intro st gg w' G hw hk
      go_simp
      exact ⟨rfl, rfl⟩
    · intro st gg w' G hw hk
      have q0 := (HA.out st w' G hw).1
      have q1 := (HA.out st w' G hw).2.1
      have q2 := (HA.out st w' G hw).2.2.1
      have q3 := (HA.out st w' G hw).2.2.2.1
      have q4 := (HA.out st w' G hw).2.2.2.2
      go_simp
      exact ⟨rfl, rfl⟩
    · intro st gg w' G hw hk
      go_simp
      exact Draw.stays_call (vwantOf_any x w')
    · intro st gg w' G hw hk
      go_simp
      exact Draw.stays_call (HFa.out w' _ _ (HS.out st w' G hw))
    · intro st gg w' G hw hk
      go_simp
      exact ⟨rfl, rfl⟩
    · intro st gg w' G hw hk
      have q0 := (HB3.out st w' G hw).1
      have q1 := (HB3.out st w' G hw).2.1
      have q2 := (HB3.out st w' G hw).2.2.1
      have q3 := (HB3.out st w' G hw).2.2.2.1
      have q4 := (HB3.out st w' G hw).2.2.2.2
      go_simp
      exact ⟨rfl, rfl⟩
    · intro st gg w' G hw hk
      go_simp
      exact Draw.stays_call (vwantOf_any { x with wd := x.wd - l } w')
    · intro st gg w' G hw hk
      go_simp
      exact Draw.stays_call (HFb.out w' _ _ (HS.out st w' G hw))
    · intro st gg w' G hw hk
      go_simp
    · intro st gg w' G hw hk
      go_simp
    · intro st gg w' G hw y b hy hob hb
      obtain rfl : Draw.Leave.box _ = y := Option.some.inj hy
      obtain rfl : _ = b := Option.some.inj hob
      obtain ⟨r0, r1, r2, r3⟩ := R4.of_block hb
      obtain ⟨f0, f1, f2, f3⟩ := free4 hb
      refine ⟨_, ?_, only_put4 _ 0 0 0 0 xa ya ra ba hb⟩
      clear hb
      go_simp
      rfl
    · intro st gg w' G hw y b hy hob hb
      obtain rfl : Draw.Leave.box _ = y := Option.some.inj hy
      obtain rfl : _ = b := Option.some.inj hob
      obtain ⟨r0, r1, r2, r3⟩ := R4.of_block hb
      obtain ⟨f0, f1, f2, f3⟩ := free4 hb
      refine ⟨_, ?_, only_put4 _ 0 0 0 0 xb yb rb bb hb⟩
      clear hb
      go_simp
      rfl
  intro gg w9 G9 k9 hbox hput hap
  have p8 : R4 w9 (gg 8) xa ya ra ba := R4.of_block (hput 10 8 _ rfl)
  have p9 : R4 w9 (gg 9) xb yb rb bb := R4.of_block (hput 11 9 _ rfl)
  simp only [Draw.fill, Draw.Leave.value]
  go_simp
  generalize gg 8 = b8 at *
  generalize gg 9 = b9 at *
  have K9 := Lib.hid (thru SV.out.2.1 k9.1)
  clear hbox hput hap k9 HS HA HB3 SV HFa HFb
  obtain ⟨-, a1, -, -⟩ := p8
  obtain ⟨-, d1, -, -⟩ := p9
  have hle := HLE.out
  go_wp2_with fail
  go_ret
  exact ⟨ret_b (by simp [hle]), K9.out⟩

theorem valone_any (hO : SpaceOk S) (hP : AvoidOk S) (A : Option Addr) (n c : Nat) (fs : List Fl) (x : Vt) (l : Int) (w : World) (hn : n = fs.length) (hm : n ≤ 9223372036854775807) (hx : Floats w w.heap.size A fs) (hl : 0 ≤ l ∧ l ≤ 255) :
    Calls Try.prog 6 #[.slice A n c, x.v, .int .u8 l] w fun e w' => e = .returned (.bool true) ∧ Below w.heap.size w w' := by
  by_cases hh : (fs.all near49 && decide ((n : Int) ≤ 30)) = true
  · simp only [Bool.and_eq_true, decide_eq_true_eq] at hh
    by_cases h2 : rightV x = true
    · have hr := rightV_iff.1 h2
      by_cases hc : x.wd - l ≤ 0
      · exact valone_zero hO hP A n c fs x l w hn (by omega) hx hh.1 hr hl hc
      · exact valone_less hO hP A n c fs x l w hn (by omega) hx hh.1 hr hl (by omega)
    · exact valone_wrong hO hP A n c fs x l w hn (by omega) hx hh.1 (by simpa using h2)
  · exact valone_few hO hP A n c fs x l w hn hm hx (by simpa using hh)

end

end Go.Proofs.Ytmpfjkhboenfcaa.Avoid
