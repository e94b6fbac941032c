/- The law: a narrower float never stands lower; one that may stand lower only never stands higher. -/
import Derived.Test.YtkabpflbedpbaaaPart35
namespace Go.Proofs.Ytkabpflbedpbaaa.Place
open Go.RowKit Go.Sort Go.Proofs.Ytkabpflbedpbaaa.Rect Go.Proofs.Ytkabpflbedpbaaa.More Go.Proofs.Ytkabpflbedpbaaa.Shelf Go.Proofs.Ytkabpflbedpbaaa.Space
set_option linter.unusedVariables false
set_option linter.unusedSimpArgs false

section
variable {S : World → (Nat → Prop) → Addr → List Fl → Prop}

/-- Narrower: no lower. -/
theorem narrow_le {fs : List Fl} {x : Wt} {nw : Int} (h49 : fs.all near49 = true) (hr : RightW x) (hrn : RightW { x with wd := nw }) (h1 : nw ≤ x.wd) : findY fs { x with wd := nw } ≤ findY fs x := by
  have hf := find_is h49 hr
  refine finds_le (find_is h49 hrn) (show startQ fs x ≤ findY fs x from hf.1) ?_
  have hok := hf.2.1
  unfold okQ at hok ⊢
  show okN { x with wd := nw } (bandL fs (findY fs x) (findY fs x + highZ x.ht)) (bandR fs (findY fs x) (findY fs x + highZ x.ht)) = true
  generalize bandL fs (findY fs x) (findY fs x + highZ x.ht) = P at *
  generalize bandR fs (findY fs x) (findY fs x + highZ x.ht) = Q at *
  rw [okN_iff] at *
  simp only at *
  by_cases c1 : nw ≤ x.t - x.f
  · left
    rcases hok with h | ⟨h, ⟨-, g1, g2⟩ | ⟨-, g1, g2⟩⟩
    · omega
    · rw [show max x.f P = x.f by omega]; omega
    · rw [show min x.t Q = x.t by omega]; omega
  · rcases hok with h | ⟨h, ⟨g0, g1, g2⟩ | ⟨g0, g1, g2⟩⟩
    · left; omega
    · exact .inr ⟨by omega, .inl ⟨g0, g1, by omega⟩⟩
    · exact .inr ⟨by omega, .inr ⟨g0, g1, by omega⟩⟩

/-- Lower only: no higher. -/
theorem low_ge {fs : List Fl} {x : Wt} {z : Int} (h49 : fs.all near49 = true) (hr : RightW x) (hrl : RightW { x with y := z }) (h1 : x.y ≤ z) : findY fs x ≤ findY fs { x with y := z } := by
  have hf := find_is h49 hrl
  refine finds_le (find_is h49 hr) (Int.le_trans ?_ hf.1) (show okQ fs x _ = true from hf.2.1)
  refine startQ_le ?_ fun f hf => startQ_last hf
  refine Int.le_trans ?_ (startQ_clear fs { x with y := z })
  have := clearS_max fs x.c x.y z
  rw [show max x.y z = z by omega] at this
  show clearS fs x.c x.y ≤ clearS fs x.c z
  omega

set_option maxRecDepth 100000 in
set_option maxHeartbeats 1000000 in
theorem narrow_few (hO : SpaceOk S) (hP : PlaceOk S) (A : Option Addr) (n c : Nat) (fs : List Fl) (x : Wt) (l : Int) (d : Int) (w : World) (hn : n = fs.length) (hlen : n ≤ 9223372036854775807) (hx : Floats w w.heap.size A fs) (hv : (fs.all near49 && decide ((n : Int) ≤ 30)) = false) :
    Calls Try.prog 7 #[.slice A n c, x.v, .int .u8 l, .int .u8 d] w fun e w' => e = .returned (.bool true) ∧ Below w.heap.size w w' := by
  have HBe := Lib.hid (fun w1 (k : Below w.heap.size w w1) => lbegin_no A n c fs 30 w1 hn hlen (hx.thru k) hv)
  clear hn hx hv
  go_enter Try.func7, Try.ntmps7
  go_upto_region 1 with fail
  generalize hW1 : World.alloc w _ = W
  obtain ⟨b0, hb0⟩ : ∃ b0, w.heap.size = b0 := ⟨_, rfl⟩
  have KW := Lib.hid (show Below w.heap.size w W by rw [← hW1]; exact ba1 _ _)
  have AW := Lib.hid (show AtW W b0 x by rw [← hW1, ← hb0]; exact atW_boxed _ _ _)
  rw [hb0]
  clear hW1 hb0
  go_upto_region 3 with (first
    | (go_at_call 10; refine (HBe.out _ KW.out).mono ?_; rintro e w2 ⟨rfl, k2⟩; have K2 := Lib.hid (thru KW.out k2); clear k2)
    | (go_at_call 11; refine (qspeaks hO hP _).mono ?_; rintro e w3 ⟨rfl, k3⟩; have K3 := Lib.hid (thru K2.out k3); clear k3))
  go_wp2_with (first
    | (go_at_call 11; refine (qspeaks hO hP _).mono ?_; rintro e w9 ⟨rfl, k9⟩; have K9 := Lib.hid (thru K3.out k9); clear k9))
  go_ret
  exact ⟨rfl, K9.out⟩

set_option maxRecDepth 100000 in
set_option maxHeartbeats 1000000 in
theorem narrow_wrong (hO : SpaceOk S) (hP : PlaceOk S) (A : Option Addr) (n c : Nat) (fs : List Fl) (x : Wt) (l : Int) (d : Int) (w : World) (hn : n = fs.length) (hlen : n ≤ 30) (hx : Floats w w.heap.size A fs) (h49 : fs.all near49 = true) (hr : rightW x = false) :
    Calls Try.prog 7 #[.slice A n c, x.v, .int .u8 l, .int .u8 d] w fun e w' => e = .returned (.bool true) ∧ Below w.heap.size w w' := by
  have HBe := Lib.hid (fun w1 (k : Below w.heap.size w w1) => lbegin_any hO A n c fs 30 w1 hn (by omega) (by omega) (hx.thru k) h49)
  have HRi := Lib.hid (fun w => right_is x false hr w)
  clear hn hx h49
  go_enter Try.func7, Try.ntmps7
  go_upto_region 1 with fail
  generalize hW1 : World.alloc w _ = W
  obtain ⟨b0, hb0⟩ : ∃ b0, w.heap.size = b0 := ⟨_, rfl⟩
  have KW := Lib.hid (show Below w.heap.size w W by rw [← hW1]; exact ba1 _ _)
  have AW := Lib.hid (show AtW W b0 x by rw [← hW1, ← hb0]; exact atW_boxed _ _ _)
  rw [hb0]
  clear hW1 hb0
  go_upto_region 3 with (first
    | (go_at_call 10; refine (HBe.out _ KW.out).mono ?_; rintro e w2 ⟨⟨p, F, rfl, hL, hF⟩, k2⟩; have S2 := Lib.hid (⟨hL, thru KW.out k2, AW.out.below k2⟩ : S w2 F p fs ∧ Below w.heap.size w w2 ∧ AtW w2 b0 x); clear hL hF k2)
    | (go_at_call 11; refine (qspeaks hO hP _).mono ?_; rintro e w3 ⟨rfl, k3⟩; have S3 := Lib.hid (⟨thruS hO S2.out.1 k3, thru S2.out.2.1 k3, S2.out.2.2.below k3⟩ : S w3 F p fs ∧ Below w.heap.size w w3 ∧ AtW w3 b0 x); obtain ⟨c0, c1, c2, c3, c4, c5, c6⟩ := S3.out.2.2; clear k3)
    | (go_at_call 12; refine (HRi.out _).mono ?_; rintro e w4 ⟨rfl, k4⟩; have S4 := Lib.hid (⟨thruS hO S3.out.1 k4, thru S3.out.2.1 k4, S3.out.2.2.below k4⟩ : S w4 F p fs ∧ Below w.heap.size w w4 ∧ AtW w4 b0 x); clear k4))
  go_wp2_with (first
    | (go_at_call 11; refine (qspeaks hO hP _).mono ?_; rintro e w9 ⟨rfl, k9⟩; have K9 := Lib.hid (thru S4.out.2.1 k9); clear k9))
  go_ret
  exact ⟨rfl, K9.out⟩

set_option maxRecDepth 100000 in
set_option maxHeartbeats 1000000 in
theorem narrow_high (hO : SpaceOk S) (hP : PlaceOk S) (A : Option Addr) (n c : Nat) (fs : List Fl) (x : Wt) (l : Int) (d : Int) (w : World) (hn : n = fs.length) (hlen : n ≤ 30) (hx : Floats w w.heap.size A fs) (h49 : fs.all near49 = true) (hr : RightW x) (hy : 140737488355328 < x.y) :
    Calls Try.prog 7 #[.slice A n c, x.v, .int .u8 l, .int .u8 d] w fun e w' => e = .returned (.bool true) ∧ Below w.heap.size w w' := by
  have HBe := Lib.hid (fun w1 (k : Below w.heap.size w w1) => lbegin_any hO A n c fs 30 w1 hn (by omega) (by omega) (hx.thru k) h49)
  have HRi := Lib.hid (fun w => right_is x true (rightW_iff.2 hr) w)
  clear hn hx h49
  go_enter Try.func7, Try.ntmps7
  go_upto_region 1 with fail
  generalize hW1 : World.alloc w _ = W
  obtain ⟨b0, hb0⟩ : ∃ b0, w.heap.size = b0 := ⟨_, rfl⟩
  have KW := Lib.hid (show Below w.heap.size w W by rw [← hW1]; exact ba1 _ _)
  have AW := Lib.hid (show AtW W b0 x by rw [← hW1, ← hb0]; exact atW_boxed _ _ _)
  rw [hb0]
  clear hW1 hb0
  go_upto_region 3 with (first
    | (go_at_call 10; refine (HBe.out _ KW.out).mono ?_; rintro e w2 ⟨⟨p, F, rfl, hL, hF⟩, k2⟩; have S2 := Lib.hid (⟨hL, thru KW.out k2, AW.out.below k2⟩ : S w2 F p fs ∧ Below w.heap.size w w2 ∧ AtW w2 b0 x); clear hL hF k2)
    | (go_at_call 11; refine (qspeaks hO hP _).mono ?_; rintro e w3 ⟨rfl, k3⟩; have S3 := Lib.hid (⟨thruS hO S2.out.1 k3, thru S2.out.2.1 k3, S2.out.2.2.below k3⟩ : S w3 F p fs ∧ Below w.heap.size w w3 ∧ AtW w3 b0 x); obtain ⟨c0, c1, c2, c3, c4, c5, c6⟩ := S3.out.2.2; clear k3)
    | (go_at_call 12; refine (HRi.out _).mono ?_; rintro e w4 ⟨rfl, k4⟩; have S4 := Lib.hid (⟨thruS hO S3.out.1 k4, thru S3.out.2.1 k4, S3.out.2.2.below k4⟩ : S w4 F p fs ∧ Below w.heap.size w w4 ∧ AtW w4 b0 x); clear c0 c1 c2 c3 c4 c5 c6; obtain ⟨c0, c1, c2, c3, c4, c5, c6⟩ := S4.out.2.2; clear k4))
  go_wp2_with (first
    | (go_at_call 11; refine (qspeaks hO hP _).mono ?_; rintro e w9 ⟨rfl, k9⟩; have K9 := Lib.hid (thru S4.out.2.1 k9); clear k9))
  go_ret
  exact ⟨rfl, K9.out⟩

set_option maxRecDepth 100000 in
set_option maxHeartbeats 1000000 in
theorem narrow_neg (hO : SpaceOk S) (hP : PlaceOk S) (A : Option Addr) (n c : Nat) (fs : List Fl) (x : Wt) (l : Int) (d : Int) (w : World) (hn : n = fs.length) (hlen : n ≤ 30) (hx : Floats w w.heap.size A fs) (h49 : fs.all near49 = true) (hr : RightW x) (hy1 : ¬ 140737488355328 < x.y) (hy : x.wd < 0) :
    Calls Try.prog 7 #[.slice A n c, x.v, .int .u8 l, .int .u8 d] w fun e w' => e = .returned (.bool true) ∧ Below w.heap.size w w' := by
  have HBe := Lib.hid (fun w1 (k : Below w.heap.size w w1) => lbegin_any hO A n c fs 30 w1 hn (by omega) (by omega) (hx.thru k) h49)
  have HRi := Lib.hid (fun w => right_is x true (rightW_iff.2 hr) w)
  clear hn hx h49
  go_enter Try.func7, Try.ntmps7
  go_upto_region 1 with fail
  generalize hW1 : World.alloc w _ = W
  obtain ⟨b0, hb0⟩ : ∃ b0, w.heap.size = b0 := ⟨_, rfl⟩
  have KW := Lib.hid (show Below w.heap.size w W by rw [← hW1]; exact ba1 _ _)
  have AW := Lib.hid (show AtW W b0 x by rw [← hW1, ← hb0]; exact atW_boxed _ _ _)
  rw [hb0]
  clear hW1 hb0
  go_upto_region 3 with (first
    | (go_at_call 10; refine (HBe.out _ KW.out).mono ?_; rintro e w2 ⟨⟨p, F, rfl, hL, hF⟩, k2⟩; have S2 := Lib.hid (⟨hL, thru KW.out k2, AW.out.below k2⟩ : S w2 F p fs ∧ Below w.heap.size w w2 ∧ AtW w2 b0 x); clear hL hF k2)
    | (go_at_call 11; refine (qspeaks hO hP _).mono ?_; rintro e w3 ⟨rfl, k3⟩; have S3 := Lib.hid (⟨thruS hO S2.out.1 k3, thru S2.out.2.1 k3, S2.out.2.2.below k3⟩ : S w3 F p fs ∧ Below w.heap.size w w3 ∧ AtW w3 b0 x); obtain ⟨c0, c1, c2, c3, c4, c5, c6⟩ := S3.out.2.2; clear k3)
    | (go_at_call 12; refine (HRi.out _).mono ?_; rintro e w4 ⟨rfl, k4⟩; have S4 := Lib.hid (⟨thruS hO S3.out.1 k4, thru S3.out.2.1 k4, S3.out.2.2.below k4⟩ : S w4 F p fs ∧ Below w.heap.size w w4 ∧ AtW w4 b0 x); clear c0 c1 c2 c3 c4 c5 c6; obtain ⟨c0, c1, c2, c3, c4, c5, c6⟩ := S4.out.2.2; clear k4))
  go_wp2_with (first
    | (go_at_call 11; refine (qspeaks hO hP _).mono ?_; rintro e w9 ⟨rfl, k9⟩; have K9 := Lib.hid (thru S4.out.2.1 k9); clear k9))
  go_ret
  exact ⟨rfl, K9.out⟩

set_option maxRecDepth 100000 in
set_option maxHeartbeats 1000000 in
theorem narrow_zero (hO : SpaceOk S) (hP : PlaceOk S) (A : Option Addr) (n c : Nat) (fs : List Fl) (x : Wt) (l : Int) (d : Int) (w : World) (hn : n = fs.length) (hlen : n ≤ 30) (hx : Floats w w.heap.size A fs) (h49 : fs.all near49 = true) (hr : RightW x) (hl : 0 ≤ l ∧ l ≤ 255) (hd : 0 ≤ d ∧ d ≤ 255) (hy1 : ¬ 140737488355328 < x.y) (hy2 : ¬ x.wd < 0) (hc : x.wd - l ≤ 0) :
    Calls Try.prog 7 #[.slice A n c, x.v, .int .u8 l, .int .u8 d] w fun e w' => e = .returned (.bool true) ∧ Below w.heap.size w w' := by
  have HBe := Lib.hid (fun w1 (k : Below w.heap.size w w1) => lbegin_any hO A n c fs 30 w1 hn (by omega) (by omega) (hx.thru k) h49)
  have HRi := Lib.hid (fun w => right_is x true (rightW_iff.2 hr) w)
  have hh1 := hr.wd2
  have hh2 := hr.y1
  have hrn : RightW { x with wd := 0 } := ⟨hr.f1, hr.f2, hr.t1, hr.t2, show -281474976710656 ≤ 0 by omega, show 0 ≤ 281474976710656 by omega, hr.ht1, hr.ht2, hr.y1, hr.y2, hr.sd, hr.cl, hr.ft⟩
  have hrl : RightW { x with y := x.y + d } := ⟨hr.f1, hr.f2, hr.t1, hr.t2, hr.wd1, hr.wd2, hr.ht1, hr.ht2, show -281474976710656 ≤ x.y + d by omega, show x.y + d ≤ 281474976710656 by omega, hr.sd, hr.cl, hr.ft⟩
  have HFa := Lib.hid (fun w1 F p (h : S w1 F p fs) => hP.find w1 F p fs x h h49 hr)
  have HFb := Lib.hid (fun w1 F p (h : S w1 F p fs) => hP.find w1 F p fs { x with wd := 0 } h h49 hrn)
  have HFc := Lib.hid (fun w1 F p (h : S w1 F p fs) => hP.find w1 F p fs { x with y := x.y + d } h h49 hrl)
  have hle := narrow_le h49 hr hrn (by omega)
  have hge := low_ge h49 hr hrl (by omega)
  unfold placed at HFa HFb HFc
  generalize findX fs x = xa at *
  generalize findX fs { x with wd := 0 } = xb at *
  generalize findX fs { x with y := x.y + d } = xc at *
  generalize findY fs x = ya at *
  generalize findY fs { x with wd := 0 } = yb at *
  generalize findY fs { x with y := x.y + d } = yc at *
  obtain ⟨ra, hra⟩ : ∃ ra, xa + x.wd = ra := ⟨_, rfl⟩
  obtain ⟨rb, hrb⟩ : ∃ rb, xb + (0) = rb := ⟨_, rfl⟩
  obtain ⟨rc, hrc⟩ : ∃ rc, xc + x.wd = rc := ⟨_, rfl⟩
  obtain ⟨ba, hba⟩ : ∃ ba, ya + x.ht = ba := ⟨_, rfl⟩
  obtain ⟨bb, hbb⟩ : ∃ bb, yb + x.ht = bb := ⟨_, rfl⟩
  obtain ⟨bc, hbc⟩ : ∃ bc, yc + x.ht = bc := ⟨_, rfl⟩
  replace HFa : Hid (∀ w1 F p, S w1 F p fs → Calls Try.prog 18 #[.pointer (some p), x.v] w1 fun r w' => r = .returned (.agg #[.int .i64 xa, .int .i64 ya, .int .i64 ra, .int .i64 ba]) ∧ Below w1.heap.size w1 w') := Lib.hid (fun w1 F p h => by rw [← hra, ← hba]; exact HFa.out w1 F p h)
  replace HFb : Hid (∀ w1 F p, S w1 F p fs → Calls Try.prog 18 #[.pointer (some p), Wt.v { x with wd := 0 }] w1 fun r w' => r = .returned (.agg #[.int .i64 xb, .int .i64 yb, .int .i64 rb, .int .i64 bb]) ∧ Below w1.heap.size w1 w') := Lib.hid (fun w1 F p h => by rw [← hrb, ← hbb]; exact HFb.out w1 F p h)
  replace HFc : Hid (∀ w1 F p, S w1 F p fs → Calls Try.prog 18 #[.pointer (some p), Wt.v { x with y := x.y + d }] w1 fun r w' => r = .returned (.agg #[.int .i64 xc, .int .i64 yc, .int .i64 rc, .int .i64 bc]) ∧ Below w1.heap.size w1 w') := Lib.hid (fun w1 F p h => by rw [← hrc, ← hbc]; exact HFc.out w1 F p h)
  have hw0 : IntKind.i64.wrap l = l := IntWalk.i64_in _ (by omega)
  have hw1 : IntKind.i64.wrap d = d := IntWalk.i64_in _ (by omega)
  have hw2 : IntKind.i64.wrap (x.wd - l) = x.wd - l := IntWalk.i64_in _ (by omega)
  have hw3 : IntKind.i64.wrap (x.y + d) = x.y + d := IntWalk.i64_in _ (by omega)
  have HW := Lib.hid (⟨hw0, hw1, hw2, hw3⟩ : IntKind.i64.wrap l = l ∧ IntKind.i64.wrap d = d ∧ IntKind.i64.wrap (x.wd - l) = x.wd - l ∧ IntKind.i64.wrap (x.y + d) = x.y + d)
  have HLE := Lib.hid (⟨hle, hge⟩ : yb ≤ ya ∧ ya ≤ yc)
  clear hn hx h49 hr hh1 hh2 hrn hrl hw0 hw1 hw2 hw3 hl hd hra hrb hrc hba hbb hbc hle hge
  go_enter Try.func7, Try.ntmps7
  go_upto_region 1 with fail
  generalize hW1 : World.alloc w _ = W
  obtain ⟨b0, hb0⟩ : ∃ b0, w.heap.size = b0 := ⟨_, rfl⟩
  have KW := Lib.hid (show Below w.heap.size w W by rw [← hW1]; exact ba1 _ _)
  have AW := Lib.hid (show AtW W b0 x by rw [← hW1, ← hb0]; exact atW_boxed _ _ _)
  rw [hb0]
  clear hW1 hb0
  go_upto_region 4 with (first
    | (go_at_call 10; refine (HBe.out _ KW.out).mono ?_; rintro e w2 ⟨⟨p, F, rfl, hL, hF⟩, k2⟩; have S2 := Lib.hid (⟨hL, thru KW.out k2, AW.out.below k2⟩ : S w2 F p fs ∧ Below w.heap.size w w2 ∧ AtW w2 b0 x); clear hL hF k2)
    | (go_at_call 11; refine (qspeaks hO hP _).mono ?_; rintro e w3 ⟨rfl, k3⟩; have S3 := Lib.hid (⟨thruS hO S2.out.1 k3, thru S2.out.2.1 k3, S2.out.2.2.below k3⟩ : S w3 F p fs ∧ Below w.heap.size w w3 ∧ AtW w3 b0 x); obtain ⟨c0, c1, c2, c3, c4, c5, c6⟩ := S3.out.2.2; clear k3)
    | (go_at_call 12; refine (HRi.out _).mono ?_; rintro e w4 ⟨rfl, k4⟩; have S4 := Lib.hid (⟨thruS hO S3.out.1 k4, thru S3.out.2.1 k4, S3.out.2.2.below k4⟩ : S w4 F p fs ∧ Below w.heap.size w w4 ∧ AtW w4 b0 x); clear c0 c1 c2 c3 c4 c5 c6; obtain ⟨c0, c1, c2, c3, c4, c5, c6⟩ := S4.out.2.2; clear k4))
  clear c0 c1 c2 c3 c4 c5 c6
  have HA := Lib.hid (fun (st : Nat) w' G (j : Draw.quiet w4 st w' G) => S4.out.2.2.below j.1)
  refine Draw.wp_region_drawn (Draw.quiet w4) 0 [.val (x.v), .val (x.v), .box (.cells (wcells zeroW) 24), .box (.cells (wcells zeroW) 24), .put 2 (.cells (wcells x) 24), .put 3 (.cells (wcells x) 24)] (by kernel_rfl) (by kernel_rfl) (by kernel_rfl) (Draw.quiet_kept w4) (Draw.quiet_start w4) ?_ ?_
  · simp only [Draw.fill, Draw.Leave.value]
    refine ⟨?_, ?_, ?_, ?_, ?_, ?_, trivial⟩
    · intro st gg w' G hw hk
      have q0 := (HA.out st w' G hw).1
      have q1 := (HA.out st w' G hw).2.1
      have q2 := (HA.out st w' G hw).2.2.1
      have q3 := (HA.out st w' G hw).2.2.2.1
      have q4 := (HA.out st w' G hw).2.2.2.2.1
      have q5 := (HA.out st w' G hw).2.2.2.2.2.1
      have q6 := (HA.out st w' G hw).2.2.2.2.2.2
      go_simp
      exact ⟨rfl, rfl⟩
    · intro st gg w' G hw hk
      have q0 := (HA.out st w' G hw).1
      have q1 := (HA.out st w' G hw).2.1
      have q2 := (HA.out st w' G hw).2.2.1
      have q3 := (HA.out st w' G hw).2.2.2.1
      have q4 := (HA.out st w' G hw).2.2.2.2.1
      have q5 := (HA.out st w' G hw).2.2.2.2.2.1
      have q6 := (HA.out st w' G hw).2.2.2.2.2.2
      go_simp
      exact ⟨rfl, rfl⟩
    · intro st gg w' G hw hk
      go_simp
    · intro st gg w' G hw hk
      go_simp
    · intro st gg w' G hw y b hy hob hb
      obtain rfl : Draw.Leave.box _ = y := Option.some.inj hy
      obtain rfl : _ = b := Option.some.inj hob
      have hb0 : Wb w' _ zeroW := hb
      obtain ⟨r0, r1, r2, r3, r4, r5, r6⟩ := hb0.at'
      obtain ⟨f0, f1, f2, f3, f4, f5, f6⟩ := hb0.free
      refine ⟨_, ?_, only_putW zeroW x hb⟩
      clear hb0
      clear hb
      go_simp
      rfl
    · intro st gg w' G hw y b hy hob hb
      obtain rfl : Draw.Leave.box _ = y := Option.some.inj hy
      obtain rfl : _ = b := Option.some.inj hob
      have hb0 : Wb w' _ zeroW := hb
      obtain ⟨r0, r1, r2, r3, r4, r5, r6⟩ := hb0.at'
      obtain ⟨f0, f1, f2, f3, f4, f5, f6⟩ := hb0.free
      refine ⟨_, ?_, only_putW zeroW x hb⟩
      clear hb0
      clear hb
      go_simp
      rfl
  intro gg w5 G5 k5 hbox hput hap
  have p3 : Wb w5 (gg 2) x := hput 4 2 _ rfl
  have p4 : Wb w5 (gg 3) x := hput 5 3 _ rfl
  have n34 := hap 2 3 _ _ _ _ (by decide) rfl rfl rfl rfl
  have l3 := (hbox 2 _ _ rfl rfl).2.1
  have l4 := (hbox 3 _ _ rfl rfl).2.1
  simp only [Draw.fill, Draw.Leave.value]
  go_simp
  generalize gg 2 = b3 at *
  generalize gg 3 = b4 at *
  have S5 := Lib.hid (⟨S4.out.2.2.below k5.1, p3, p4⟩ : AtW w5 b0 x ∧ Wb w5 b3 x ∧ Wb w5 b4 x)
  have HN := Lib.hid (⟨n34, l3, l4⟩ : b3 ≠ b4 ∧ w4.heap.size ≤ b3 ∧ w4.heap.size ≤ b4)
  have K5 := Lib.hid k5.1
  clear hbox hput hap p3 p4 n34 l3 l4 k5
  obtain ⟨-, -, -, -, c4, -, -⟩ := S5.out.1
  obtain ⟨-, -, -, -, d4, -, -⟩ := S5.out.2.1.at'
  obtain ⟨-, -, -, -, -, -, e6⟩ := S5.out.2.2.at'
  obtain ⟨-, -, -, -, f4, -, -⟩ := S5.out.2.1.free
  obtain ⟨-, -, -, -, -, -, g6⟩ := S5.out.2.2.free
  obtain ⟨hw0, hw1, hw2, hw3⟩ := HW.out
  have n34 := HN.out.1
  go_upto_region 7 with fail
  clear c4 d4 e6 f4 g6 hw0 hw1 hw2 hw3 hc
  have kV := (K5.out.setCell (p := ⟨b3, 4, none⟩) HN.out.2.1 (.int .i64 (0))).setCell (p := ⟨b4, 6, none⟩) HN.out.2.2 (.int .i64 (x.y + d))
  have v3 := (S5.out.2.1.set4 (0)).other (o := 6) (v := .int .i64 (x.y + d)) n34
  have v4 := (S5.out.2.2.other (o := 4) (v := .int .i64 (0)) n34.symm).set6 (x.y + d)
  generalize hV : (w5.setCell ⟨b3, 4, none⟩ (.int .i64 (0))).setCell ⟨b4, 6, none⟩ (.int .i64 (x.y + d)) = V at *
  have SV := Lib.hid (⟨thruS hO S4.out.1 kV, thru S4.out.2.1 kV, S4.out.2.2.below kV, v3, v4⟩ : S V F p fs ∧ Below w.heap.size w V ∧ AtW V b0 x ∧ Wb V b3 { x with wd := 0 } ∧ Wb V b4 { x with y := x.y + d })
  clear hV kV v3 v4 n34 S5 K5 HN
  have HS := Lib.hid (fun (st : Nat) w' G (j : Draw.quiet V st w' G) => thruS hO SV.out.1 j.1)
  have HA := Lib.hid (fun (st : Nat) w' G (j : Draw.quiet V st w' G) => SV.out.2.2.1.below j.1)
  have HB3 := Lib.hid (fun (st : Nat) w' G (j : Draw.quiet V st w' G) => (SV.out.2.2.2.1.below j.1).at')
  have HB4 := Lib.hid (fun (st : Nat) w' G (j : Draw.quiet V st w' G) => (SV.out.2.2.2.2.below j.1).at')
  refine Draw.wp_region_drawn (Draw.quiet V) 0 [.val (.pointer (some p)), .val ((Wt.v x)), .val ((Wt.v x)), .val (.agg #[.int .i64 xa, .int .i64 ya, .int .i64 ra, .int .i64 ba]), .val (.pointer (some p)), .val ((Wt.v { x with wd := 0 })), .val ((Wt.v { x with wd := 0 })), .val (.agg #[.int .i64 xb, .int .i64 yb, .int .i64 rb, .int .i64 bb]), .val (.pointer (some p)), .val ((Wt.v { x with y := x.y + d })), .val ((Wt.v { x with y := x.y + d })), .val (.agg #[.int .i64 xc, .int .i64 yc, .int .i64 rc, .int .i64 bc]), .box (.cells #[.int .i64 0, .int .i64 0, .int .i64 0, .int .i64 0] 40), .box (.cells #[.int .i64 0, .int .i64 0, .int .i64 0, .int .i64 0] 40), .box (.cells #[.int .i64 0, .int .i64 0, .int .i64 0, .int .i64 0] 40), .put 12 (.cells #[.int .i64 xa, .int .i64 ya, .int .i64 ra, .int .i64 ba] 40), .put 13 (.cells #[.int .i64 xb, .int .i64 yb, .int .i64 rb, .int .i64 bb] 40), .put 14 (.cells #[.int .i64 xc, .int .i64 yc, .int .i64 rc, .int .i64 bc] 40)] (by kernel_rfl) (by kernel_rfl) (by kernel_rfl) (Draw.quiet_kept V) (Draw.quiet_start V) ?_ ?_
  · simp only [Draw.fill, Draw.Leave.value]
    refine ⟨?_, ?_, ?_, ?_, ?_, ?_, ?_, ?_, ?_, ?_, ?_, ?_, ?_, ?_, ?_, ?_, ?_, ?_, trivial⟩
    · intro st gg w' G hw hk
      go_simp
      exact ⟨rfl, rfl⟩
    · intro st gg w' G hw hk
      have q0 := (HA.out st w' G hw).1
      have q1 := (HA.out st w' G hw).2.1
      have q2 := (HA.out st w' G hw).2.2.1
      have q3 := (HA.out st w' G hw).2.2.2.1
      have q4 := (HA.out st w' G hw).2.2.2.2.1
      have q5 := (HA.out st w' G hw).2.2.2.2.2.1
      have q6 := (HA.out st w' G hw).2.2.2.2.2.2
      go_simp
      exact ⟨rfl, rfl⟩
    · intro st gg w' G hw hk
      go_simp
      exact Draw.stays_call (wantOf_any x w')
    · intro st gg w' G hw hk
      go_simp
      exact Draw.stays_call (HFa.out w' _ _ (HS.out st w' G hw))
    · intro st gg w' G hw hk
      go_simp
      exact ⟨rfl, rfl⟩
    · intro st gg w' G hw hk
      have q0 := (HB3.out st w' G hw).1
      have q1 := (HB3.out st w' G hw).2.1
      have q2 := (HB3.out st w' G hw).2.2.1
      have q3 := (HB3.out st w' G hw).2.2.2.1
      have q4 := (HB3.out st w' G hw).2.2.2.2.1
      have q5 := (HB3.out st w' G hw).2.2.2.2.2.1
      have q6 := (HB3.out st w' G hw).2.2.2.2.2.2
      go_simp
      exact ⟨rfl, rfl⟩
    · intro st gg w' G hw hk
      go_simp
      exact Draw.stays_call (wantOf_any { x with wd := 0 } w')
    · intro st gg w' G hw hk
      go_simp
      exact Draw.stays_call (HFb.out w' _ _ (HS.out st w' G hw))
    · intro st gg w' G hw hk
      go_simp
      exact ⟨rfl, rfl⟩
    · intro st gg w' G hw hk
      have q0 := (HB4.out st w' G hw).1
      have q1 := (HB4.out st w' G hw).2.1
      have q2 := (HB4.out st w' G hw).2.2.1
      have q3 := (HB4.out st w' G hw).2.2.2.1
      have q4 := (HB4.out st w' G hw).2.2.2.2.1
      have q5 := (HB4.out st w' G hw).2.2.2.2.2.1
      have q6 := (HB4.out st w' G hw).2.2.2.2.2.2
      go_simp
      exact ⟨rfl, rfl⟩
    · intro st gg w' G hw hk
      go_simp
      exact Draw.stays_call (wantOf_any { x with y := x.y + d } w')
    · intro st gg w' G hw hk
      go_simp
      exact Draw.stays_call (HFc.out w' _ _ (HS.out st w' G hw))
    · intro st gg w' G hw hk
      go_simp
    · intro st gg w' G hw hk
      go_simp
    · intro st gg w' G hw hk
      go_simp
    · intro st gg w' G hw y b hy hob hb
      obtain rfl : Draw.Leave.box _ = y := Option.some.inj hy
      obtain rfl : _ = b := Option.some.inj hob
      obtain ⟨r0, r1, r2, r3⟩ := R4.of_block hb
      obtain ⟨f0, f1, f2, f3⟩ := free4 hb
      refine ⟨_, ?_, only_put4 _ 0 0 0 0 xa ya ra ba hb⟩
      clear hb
      go_simp
      rfl
    · intro st gg w' G hw y b hy hob hb
      obtain rfl : Draw.Leave.box _ = y := Option.some.inj hy
      obtain rfl : _ = b := Option.some.inj hob
      obtain ⟨r0, r1, r2, r3⟩ := R4.of_block hb
      obtain ⟨f0, f1, f2, f3⟩ := free4 hb
      refine ⟨_, ?_, only_put4 _ 0 0 0 0 xb yb rb bb hb⟩
      clear hb
      go_simp
      rfl
    · intro st gg w' G hw y b hy hob hb
      obtain rfl : Draw.Leave.box _ = y := Option.some.inj hy
      obtain rfl : _ = b := Option.some.inj hob
      obtain ⟨r0, r1, r2, r3⟩ := R4.of_block hb
      obtain ⟨f0, f1, f2, f3⟩ := free4 hb
      refine ⟨_, ?_, only_put4 _ 0 0 0 0 xc yc rc bc hb⟩
      clear hb
      go_simp
      rfl
  intro gg w6 G6 k6 hbox hput hap
  have p8 : R4 w6 (gg 12) xa ya ra ba := R4.of_block (hput 15 12 _ rfl)
  have p9 : R4 w6 (gg 13) xb yb rb bb := R4.of_block (hput 16 13 _ rfl)
  have p10 : R4 w6 (gg 14) xc yc rc bc := R4.of_block (hput 17 14 _ rfl)
  simp only [Draw.fill, Draw.Leave.value]
  go_simp
  generalize gg 12 = b8 at *
  generalize gg 13 = b9 at *
  generalize gg 14 = b10 at *
  have K6 := Lib.hid (thru SV.out.2.1 k6.1)
  clear hbox hput hap k6 HS HA HB3 HB4 SV HFa HFb HFc
  obtain ⟨-, a1, -, -⟩ := p8
  obtain ⟨-, d1, -, -⟩ := p9
  obtain ⟨-, e1, -, -⟩ := p10
  obtain ⟨hle, hge⟩ := HLE.out
  go_wp2_with fail
  go_ret
  exact ⟨ret_b (by simp <;> omega), K6.out⟩

set_option maxRecDepth 100000 in
set_option maxHeartbeats 1000000 in
theorem narrow_less (hO : SpaceOk S) (hP : PlaceOk S) (A : Option Addr) (n c : Nat) (fs : List Fl) (x : Wt) (l : Int) (d : Int) (w : World) (hn : n = fs.length) (hlen : n ≤ 30) (hx : Floats w w.heap.size A fs) (h49 : fs.all near49 = true) (hr : RightW x) (hl : 0 ≤ l ∧ l ≤ 255) (hd : 0 ≤ d ∧ d ≤ 255) (hy1 : ¬ 140737488355328 < x.y) (hy2 : ¬ x.wd < 0) (hc : 0 < x.wd - l) :
    Calls Try.prog 7 #[.slice A n c, x.v, .int .u8 l, .int .u8 d] w fun e w' => e = .returned (.bool true) ∧ Below w.heap.size w w' := by
  have HBe := Lib.hid (fun w1 (k : Below w.heap.size w w1) => lbegin_any hO A n c fs 30 w1 hn (by omega) (by omega) (hx.thru k) h49)
  have HRi := Lib.hid (fun w => right_is x true (rightW_iff.2 hr) w)
  have hh1 := hr.wd2
  have hh2 := hr.y1
  have hrn : RightW { x with wd := x.wd - l } := ⟨hr.f1, hr.f2, hr.t1, hr.t2, show -281474976710656 ≤ x.wd - l by omega, show x.wd - l ≤ 281474976710656 by omega, hr.ht1, hr.ht2, hr.y1, hr.y2, hr.sd, hr.cl, hr.ft⟩
  have hrl : RightW { x with y := x.y + d } := ⟨hr.f1, hr.f2, hr.t1, hr.t2, hr.wd1, hr.wd2, hr.ht1, hr.ht2, show -281474976710656 ≤ x.y + d by omega, show x.y + d ≤ 281474976710656 by omega, hr.sd, hr.cl, hr.ft⟩
  have HFa := Lib.hid (fun w1 F p (h : S w1 F p fs) => hP.find w1 F p fs x h h49 hr)
  have HFb := Lib.hid (fun w1 F p (h : S w1 F p fs) => hP.find w1 F p fs { x with wd := x.wd - l } h h49 hrn)
  have HFc := Lib.hid (fun w1 F p (h : S w1 F p fs) => hP.find w1 F p fs { x with y := x.y + d } h h49 hrl)
  have hle := narrow_le h49 hr hrn (by omega)
  have hge := low_ge h49 hr hrl (by omega)
  unfold placed at HFa HFb HFc
  generalize findX fs x = xa at *
  generalize findX fs { x with wd := x.wd - l } = xb at *
  generalize findX fs { x with y := x.y + d } = xc at *
  generalize findY fs x = ya at *
  generalize findY fs { x with wd := x.wd - l } = yb at *
  generalize findY fs { x with y := x.y + d } = yc at *
  obtain ⟨ra, hra⟩ : ∃ ra, xa + x.wd = ra := ⟨_, rfl⟩
  obtain ⟨rb, hrb⟩ : ∃ rb, xb + (x.wd - l) = rb := ⟨_, rfl⟩
  obtain ⟨rc, hrc⟩ : ∃ rc, xc + x.wd = rc := ⟨_, rfl⟩
  obtain ⟨ba, hba⟩ : ∃ ba, ya + x.ht = ba := ⟨_, rfl⟩
  obtain ⟨bb, hbb⟩ : ∃ bb, yb + x.ht = bb := ⟨_, rfl⟩
  obtain ⟨bc, hbc⟩ : ∃ bc, yc + x.ht = bc := ⟨_, rfl⟩
  replace HFa : Hid (∀ w1 F p, S w1 F p fs → Calls Try.prog 18 #[.pointer (some p), x.v] w1 fun r w' => r = .returned (.agg #[.int .i64 xa, .int .i64 ya, .int .i64 ra, .int .i64 ba]) ∧ Below w1.heap.size w1 w') := Lib.hid (fun w1 F p h => by rw [← hra, ← hba]; exact HFa.out w1 F p h)
  replace HFb : Hid (∀ w1 F p, S w1 F p fs → Calls Try.prog 18 #[.pointer (some p), Wt.v { x with wd := x.wd - l }] w1 fun r w' => r = .returned (.agg #[.int .i64 xb, .int .i64 yb, .int .i64 rb, .int .i64 bb]) ∧ Below w1.heap.size w1 w') := Lib.hid (fun w1 F p h => by rw [← hrb, ← hbb]; exact HFb.out w1 F p h)
  replace HFc : Hid (∀ w1 F p, S w1 F p fs → Calls Try.prog 18 #[.pointer (some p), Wt.v { x with y := x.y + d }] w1 fun r w' => r = .returned (.agg #[.int .i64 xc, .int .i64 yc, .int .i64 rc, .int .i64 bc]) ∧ Below w1.heap.size w1 w') := Lib.hid (fun w1 F p h => by rw [← hrc, ← hbc]; exact HFc.out w1 F p h)
  have hw0 : IntKind.i64.wrap l = l := IntWalk.i64_in _ (by omega)
  have hw1 : IntKind.i64.wrap d = d := IntWalk.i64_in _ (by omega)
  have hw2 : IntKind.i64.wrap (x.wd - l) = x.wd - l := IntWalk.i64_in _ (by omega)
  have hw3 : IntKind.i64.wrap (x.y + d) = x.y + d := IntWalk.i64_in _ (by omega)
  have HW := Lib.hid (⟨hw0, hw1, hw2, hw3⟩ : IntKind.i64.wrap l = l ∧ IntKind.i64.wrap d = d ∧ IntKind.i64.wrap (x.wd - l) = x.wd - l ∧ IntKind.i64.wrap (x.y + d) = x.y + d)
  have HLE := Lib.hid (⟨hle, hge⟩ : yb ≤ ya ∧ ya ≤ yc)
  clear hn hx h49 hr hh1 hh2 hrn hrl hw0 hw1 hw2 hw3 hl hd hra hrb hrc hba hbb hbc hle hge
  go_enter Try.func7, Try.ntmps7
  go_upto_region 1 with fail
  generalize hW1 : World.alloc w _ = W
  obtain ⟨b0, hb0⟩ : ∃ b0, w.heap.size = b0 := ⟨_, rfl⟩
  have KW := Lib.hid (show Below w.heap.size w W by rw [← hW1]; exact ba1 _ _)
  have AW := Lib.hid (show AtW W b0 x by rw [← hW1, ← hb0]; exact atW_boxed _ _ _)
  rw [hb0]
  clear hW1 hb0
  go_upto_region 4 with (first
    | (go_at_call 10; refine (HBe.out _ KW.out).mono ?_; rintro e w2 ⟨⟨p, F, rfl, hL, hF⟩, k2⟩; have S2 := Lib.hid (⟨hL, thru KW.out k2, AW.out.below k2⟩ : S w2 F p fs ∧ Below w.heap.size w w2 ∧ AtW w2 b0 x); clear hL hF k2)
    | (go_at_call 11; refine (qspeaks hO hP _).mono ?_; rintro e w3 ⟨rfl, k3⟩; have S3 := Lib.hid (⟨thruS hO S2.out.1 k3, thru S2.out.2.1 k3, S2.out.2.2.below k3⟩ : S w3 F p fs ∧ Below w.heap.size w w3 ∧ AtW w3 b0 x); obtain ⟨c0, c1, c2, c3, c4, c5, c6⟩ := S3.out.2.2; clear k3)
    | (go_at_call 12; refine (HRi.out _).mono ?_; rintro e w4 ⟨rfl, k4⟩; have S4 := Lib.hid (⟨thruS hO S3.out.1 k4, thru S3.out.2.1 k4, S3.out.2.2.below k4⟩ : S w4 F p fs ∧ Below w.heap.size w w4 ∧ AtW w4 b0 x); clear c0 c1 c2 c3 c4 c5 c6; obtain ⟨c0, c1, c2, c3, c4, c5, c6⟩ := S4.out.2.2; clear k4))
  clear c0 c1 c2 c3 c4 c5 c6
  have HA := Lib.hid (fun (st : Nat) w' G (j : Draw.quiet w4 st w' G) => S4.out.2.2.below j.1)
  refine Draw.wp_region_drawn (Draw.quiet w4) 0 [.val (x.v), .val (x.v), .box (.cells (wcells zeroW) 24), .box (.cells (wcells zeroW) 24), .put 2 (.cells (wcells x) 24), .put 3 (.cells (wcells x) 24)] (by kernel_rfl) (by kernel_rfl) (by kernel_rfl) (Draw.quiet_kept w4) (Draw.quiet_start w4) ?_ ?_
  · simp only [Draw.fill, Draw.Leave.value]
    refine ⟨?_, ?_, ?_, ?_, ?_, ?_, trivial⟩
    · intro st gg w' G hw hk
      have q0 := (HA.out st w' G hw).1
      have q1 := (HA.out st w' G hw).2.1
      have q2 := (HA.out st w' G hw).2.2.1
      have q3 := (HA.out st w' G hw).2.2.2.1
      have q4 := (HA.out st w' G hw).2.2.2.2.1
      have q5 := (HA.out st w' G hw).2.2.2.2.2.1
      have q6 := (HA.out st w' G hw).2.2.2.2.2.2
      go_simp
      exact ⟨rfl, rfl⟩
    · intro st gg w' G hw hk
      have q0 := (HA.out st w' G hw).1
      have q1 := (HA.out st w' G hw).2.1
      have q2 := (HA.out st w' G hw).2.2.1
      have q3 := (HA.out st w' G hw).2.2.2.1
      have q4 := (HA.out st w' G hw).2.2.2.2.1
      have q5 := (HA.out st w' G hw).2.2.2.2.2.1
      have q6 := (HA.out st w' G hw).2.2.2.2.2.2
      go_simp
      exact ⟨rfl, rfl⟩
    · intro st gg w' G hw hk
      go_simp
    · intro st gg w' G hw hk
      go_simp
    · intro st gg w' G hw y b hy hob hb
      obtain rfl : Draw.Leave.box _ = y := Option.some.inj hy
      obtain rfl : _ = b := Option.some.inj hob
      have hb0 : Wb w' _ zeroW := hb
      obtain ⟨r0, r1, r2, r3, r4, r5, r6⟩ := hb0.at'
      obtain ⟨f0, f1, f2, f3, f4, f5, f6⟩ := hb0.free
      refine ⟨_, ?_, only_putW zeroW x hb⟩
      clear hb0
      clear hb
      go_simp
      rfl
    · intro st gg w' G hw y b hy hob hb
      obtain rfl : Draw.Leave.box _ = y := Option.some.inj hy
      obtain rfl : _ = b := Option.some.inj hob
      have hb0 : Wb w' _ zeroW := hb
      obtain ⟨r0, r1, r2, r3, r4, r5, r6⟩ := hb0.at'
      obtain ⟨f0, f1, f2, f3, f4, f5, f6⟩ := hb0.free
      refine ⟨_, ?_, only_putW zeroW x hb⟩
      clear hb0
      clear hb
      go_simp
      rfl
  intro gg w5 G5 k5 hbox hput hap
  have p3 : Wb w5 (gg 2) x := hput 4 2 _ rfl
  have p4 : Wb w5 (gg 3) x := hput 5 3 _ rfl
  have n34 := hap 2 3 _ _ _ _ (by decide) rfl rfl rfl rfl
  have l3 := (hbox 2 _ _ rfl rfl).2.1
  have l4 := (hbox 3 _ _ rfl rfl).2.1
  simp only [Draw.fill, Draw.Leave.value]
  go_simp
  generalize gg 2 = b3 at *
  generalize gg 3 = b4 at *
  have S5 := Lib.hid (⟨S4.out.2.2.below k5.1, p3, p4⟩ : AtW w5 b0 x ∧ Wb w5 b3 x ∧ Wb w5 b4 x)
  have HN := Lib.hid (⟨n34, l3, l4⟩ : b3 ≠ b4 ∧ w4.heap.size ≤ b3 ∧ w4.heap.size ≤ b4)
  have K5 := Lib.hid k5.1
  clear hbox hput hap p3 p4 n34 l3 l4 k5
  obtain ⟨-, -, -, -, c4, -, -⟩ := S5.out.1
  obtain ⟨-, -, -, -, d4, -, -⟩ := S5.out.2.1.at'
  obtain ⟨-, -, -, -, -, -, e6⟩ := S5.out.2.2.at'
  obtain ⟨-, -, -, -, f4, -, -⟩ := S5.out.2.1.free
  obtain ⟨-, -, -, -, -, -, g6⟩ := S5.out.2.2.free
  obtain ⟨hw0, hw1, hw2, hw3⟩ := HW.out
  have n34 := HN.out.1
  go_upto_region 7 with fail
  clear c4 d4 e6 f4 g6 hw0 hw1 hw2 hw3 hc
  have kV := (K5.out.setCell (p := ⟨b3, 4, none⟩) HN.out.2.1 (.int .i64 (x.wd - l))).setCell (p := ⟨b4, 6, none⟩) HN.out.2.2 (.int .i64 (x.y + d))
  have v3 := (S5.out.2.1.set4 (x.wd - l)).other (o := 6) (v := .int .i64 (x.y + d)) n34
  have v4 := (S5.out.2.2.other (o := 4) (v := .int .i64 (x.wd - l)) n34.symm).set6 (x.y + d)
  generalize hV : (w5.setCell ⟨b3, 4, none⟩ (.int .i64 (x.wd - l))).setCell ⟨b4, 6, none⟩ (.int .i64 (x.y + d)) = V at *
  have SV := Lib.hid (⟨thruS hO S4.out.1 kV, thru S4.out.2.1 kV, S4.out.2.2.below kV, v3, v4⟩ : S V F p fs ∧ Below w.heap.size w V ∧ AtW V b0 x ∧ Wb V b3 { x with wd := x.wd - l } ∧ Wb V b4 { x with y := x.y + d })
  clear hV kV v3 v4 n34 S5 K5 HN
  have HS := Lib.hid (fun (st : Nat) w' G (j : Draw.quiet V st w' G) => thruS hO SV.out.1 j.1)
  have HA := Lib.hid (fun (st : Nat) w' G (j : Draw.quiet V st w' G) => SV.out.2.2.1.below j.1)
  have HB3 := Lib.hid (fun (st : Nat) w' G (j : Draw.quiet V st w' G) => (SV.out.2.2.2.1.below j.1).at')
  have HB4 := Lib.hid (fun (st : Nat) w' G (j : Draw.quiet V st w' G) => (SV.out.2.2.2.2.below j.1).at')
  refine Draw.wp_region_drawn (Draw.quiet V) 0 [.val (.pointer (some p)), .val ((Wt.v x)), .val ((Wt.v x)), .val (.agg #[.int .i64 xa, .int .i64 ya, .int .i64 ra, .int .i64 ba]), .val (.pointer (some p)), .val ((Wt.v { x with wd := x.wd - l })), .val ((Wt.v { x with wd := x.wd - l })), .val (.agg #[.int .i64 xb, .int .i64 yb, .int .i64 rb, .int .i64 bb]), .val (.pointer (some p)), .val ((Wt.v { x with y := x.y + d })), .val ((Wt.v { x with y := x.y + d })), .val (.agg #[.int .i64 xc, .int .i64 yc, .int .i64 rc, .int .i64 bc]), .box (.cells #[.int .i64 0, .int .i64 0, .int .i64 0, .int .i64 0] 40), .box (.cells #[.int .i64 0, .int .i64 0, .int .i64 0, .int .i64 0] 40), .box (.cells #[.int .i64 0, .int .i64 0, .int .i64 0, .int .i64 0] 40), .put 12 (.cells #[.int .i64 xa, .int .i64 ya, .int .i64 ra, .int .i64 ba] 40), .put 13 (.cells #[.int .i64 xb, .int .i64 yb, .int .i64 rb, .int .i64 bb] 40), .put 14 (.cells #[.int .i64 xc, .int .i64 yc, .int .i64 rc, .int .i64 bc] 40)] (by kernel_rfl) (by kernel_rfl) (by kernel_rfl) (Draw.quiet_kept V) (Draw.quiet_start V) ?_ ?_
  · simp only [Draw.fill, Draw.Leave.value]
    refine ⟨?_, ?_, ?_, ?_, ?_, ?_, ?_, ?_, ?_, ?_, ?_, ?_, ?_, ?_, ?_, ?_, ?_, ?_, trivial⟩
    · intro st gg w' G hw hk
      go_simp
      exact ⟨rfl, rfl⟩
    · intro st gg w' G hw hk
      have q0 := (HA.out st w' G hw).1
      have q1 := (HA.out st w' G hw).2.1
      have q2 := (HA.out st w' G hw).2.2.1
      have q3 := (HA.out st w' G hw).2.2.2.1
      have q4 := (HA.out st w' G hw).2.2.2.2.1
      have q5 := (HA.out st w' G hw).2.2.2.2.2.1
      have q6 := (HA.out st w' G hw).2.2.2.2.2.2
      go_simp
      exact ⟨rfl, rfl⟩
    · intro st gg w' G hw hk
      go_simp
      exact Draw.stays_call (wantOf_any x w')
    · intro st gg w' G hw hk
      go_simp
      exact Draw.stays_call (HFa.out w' _ _ (HS.out st w' G hw))
    · intro st gg w' G hw hk
      go_simp
      exact ⟨rfl, rfl⟩
    · intro st gg w' G hw hk
      have q0 := (HB3.out st w' G hw).1
      have q1 := (HB3.out st w' G hw).2.1
      have q2 := (HB3.out st w' G hw).2.2.1
      have q3 := (HB3.out st w' G hw).2.2.2.1
      have q4 := (HB3.out st w' G hw).2.2.2.2.1
      have q5 := (HB3.out st w' G hw).2.2.2.2.2.1
      have q6 := (HB3.out st w' G hw).2.2.2.2.2.2
      go_simp
      exact ⟨rfl, rfl⟩
    · intro st gg w' G hw hk
      go_simp
      exact Draw.stays_call (wantOf_any { x with wd := x.wd - l } w')
    · intro st gg w' G hw hk
      go_simp
      exact Draw.stays_call (HFb.out w' _ _ (HS.out st w' G hw))
    · intro st gg w' G hw hk
      go_simp
      exact ⟨rfl, rfl⟩
    · intro st gg w' G hw hk
      have q0 := (HB4.out st w' G hw).1
      have q1 := (HB4.out st w' G hw).2.1
      have q2 := (HB4.out st w' G hw).2.2.1
      have q3 := (HB4.out st w' G hw).2.2.2.1
      have q4 := (HB4.out st w' G hw).2.2.2.2.1
      have q5 := (HB4.out st w' G hw).2.2.2.2.2.1
      have q6 := (HB4.out st w' G hw).2.2.2.2.2.2
      go_simp
      exact ⟨rfl, rfl⟩
    · intro st gg w' G hw hk
      go_simp
      exact Draw.stays_call (wantOf_any { x with y := x.y + d } w')
    · intro st gg w' G hw hk
      go_simp
      exact Draw.stays_call (HFc.out w' _ _ (HS.out st w' G hw))
    · intro st gg w' G hw hk
      go_simp
    · intro st gg w' G hw hk
      go_simp
    · intro st gg w' G hw hk
      go_simp
    · intro st gg w' G hw y b hy hob hb
      obtain rfl : Draw.Leave.box _ = y := Option.some.inj hy
      obtain rfl : _ = b := Option.some.inj hob
      obtain ⟨r0, r1, r2, r3⟩ := R4.of_block hb
      obtain ⟨f0, f1, f2, f3⟩ := free4 hb
      refine ⟨_, ?_, only_put4 _ 0 0 0 0 xa ya ra ba hb⟩
      clear hb
      go_simp
      rfl
    · intro st gg w' G hw y b hy hob hb
      obtain rfl : Draw.Leave.box _ = y := Option.some.inj hy
      obtain rfl : _ = b := Option.some.inj hob
      obtain ⟨r0, r1, r2, r3⟩ := R4.of_block hb
      obtain ⟨f0, f1, f2, f3⟩ := free4 hb
      refine ⟨_, ?_, only_put4 _ 0 0 0 0 xb yb rb bb hb⟩
      clear hb
      go_simp
      rfl
    · intro st gg w' G hw y b hy hob hb
      obtain rfl : Draw.Leave.box _ = y := Option.some.inj hy
      obtain rfl : _ = b := Option.some.inj hob
      obtain ⟨r0, r1, r2, r3⟩ := R4.of_block hb
      obtain ⟨f0, f1, f2, f3⟩ := free4 hb
      refine ⟨_, ?_, only_put4 _ 0 0 0 0 xc yc rc bc hb⟩
      clear hb
      go_simp
      rfl
  intro gg w6 G6 k6 hbox hput hap
  have p8 : R4 w6 (gg 12) xa ya ra ba := R4.of_block (hput 15 12 _ rfl)
  have p9 : R4 w6 (gg 13) xb yb rb bb := R4.of_block (hput 16 13 _ rfl)
  have p10 : R4 w6 (gg 14) xc yc rc bc := R4.of_block (hput 17 14 _ rfl)
  simp only [Draw.fill, Draw.Leave.value]
  go_simp
  generalize gg 12 = b8 at *
  generalize gg 13 = b9 at *
  generalize gg 14 = b10 at *
  have K6 := Lib.hid (thru SV.out.2.1 k6.1)
  clear hbox hput hap k6 HS HA HB3 HB4 SV HFa HFb HFc
  obtain ⟨-, a1, -, -⟩ := p8
  obtain ⟨-, d1, -, -⟩ := p9
  obtain ⟨-, e1, -, -⟩ := p10
  obtain ⟨hle, hge⟩ := HLE.out
  go_wp2_with fail
  go_ret
  exact ⟨ret_b (by simp <;> omega), K6.out⟩

theorem narrow_any (hO : SpaceOk S) (hP : PlaceOk S) (A : Option Addr) (n c : Nat) (fs : List Fl) (x : Wt) (l : Int) (d : Int) (w : World) (hn : n = fs.length) (hm : n ≤ 9223372036854775807) (hx : Floats w w.heap.size A fs) (hl : 0 ≤ l ∧ l ≤ 255) (hd : 0 ≤ d ∧ d ≤ 255) :
    Calls Try.prog 7 #[.slice A n c, x.v, .int .u8 l, .int .u8 d] w fun e w' => e = .returned (.bool true) ∧ Below w.heap.size w w' := by
  by_cases hh : (fs.all near49 && decide ((n : Int) ≤ 30)) = true
  · simp only [Bool.and_eq_true, decide_eq_true_eq] at hh
    by_cases h2 : rightW x = true
    · have hr := rightW_iff.1 h2
      by_cases hy : 140737488355328 < x.y
      · exact narrow_high hO hP A n c fs x l d w hn (by omega) hx hh.1 hr hy
      · by_cases hy2 : x.wd < 0
        · exact narrow_neg hO hP A n c fs x l d w hn (by omega) hx hh.1 hr hy hy2
        · by_cases hc : x.wd - l ≤ 0
          · exact narrow_zero hO hP A n c fs x l d w hn (by omega) hx hh.1 hr hl hd hy hy2 hc
          · exact narrow_less hO hP A n c fs x l d w hn (by omega) hx hh.1 hr hl hd hy hy2 (by omega)
    · exact narrow_wrong hO hP A n c fs x l d w hn (by omega) hx hh.1 (by simpa using h2)
  · exact narrow_few hO hP A n c fs x l d w hn hm hx (by simpa using hh)

end

end Go.Proofs.Ytkabpflbedpbaaa.Place
