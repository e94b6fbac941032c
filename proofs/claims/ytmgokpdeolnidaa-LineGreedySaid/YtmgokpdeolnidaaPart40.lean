/- The law: a line ends only where the next atom does not fit. -/
import Derived.Test.YtmgokpdeolnidaaPart36
namespace Go.Proofs.Ytmgokpdeolnidaa.Line
open Go.RowKit Go.Sort Go.Proofs.Ytmgokpdeolnidaa.Rect Go.Proofs.Ytmgokpdeolnidaa.More Go.Proofs.Ytmgokpdeolnidaa.Shelf Go.Proofs.Ytmgokpdeolnidaa.Space Go.Proofs.Ytmgokpdeolnidaa.Place
set_option linter.unusedVariables false
set_option linter.unusedSimpArgs false

section
variable {S : World → (Nat → Prop) → Addr → List Fl → Prop}

set_option maxRecDepth 100000 in
set_option maxHeartbeats 1000000 in
theorem greedy_few (hO : SpaceOk S) (A : Option Addr) (n c : Nat) (fs : List Fl) (f t y : Int) (AZ : Option Addr) (nz cz : Nat) (zs : List Sz) (w : World) (hn : n = fs.length) (hx : Floats w w.heap.size A fs) (hnz : nz = zs.length) (hmz : nz ≤ 9223372036854775807) (hxz : Sizes w w.heap.size AZ zs) (hv : (nearL fs f t y && decide ((n : Int) ≤ 20)) = false) :
    Calls Try.prog 5 #[.slice A n c, .int .i64 f, .int .i64 t, .int .i64 y, .slice AZ nz cz] w fun e w' => e = .returned (.bool true) ∧ Below w.heap.size w w' := by
  have HBe := Lib.hid (llbegin_no A n c fs f t y w hn hx hv)
  clear hnz hmz hxz hn hx hv
  go_enter Try.func5, Try.ntmps5
  go_upto_region 3 with (first
    | (go_at_call 8; refine HBe.out.mono ?_; rintro e w2 ⟨rfl, k2⟩; have K2 := Lib.hid k2; clear k2)
    | (go_at_call 9; refine (lspeaks hO _).mono ?_; rintro e w3 ⟨rfl, k3⟩; have K3 := Lib.hid (thru K2.out k3); clear k3))
  go_wp2_with (first
    | (go_at_call 9; refine (lspeaks hO _).mono ?_; rintro e w9 ⟨rfl, k9⟩; have K9 := Lib.hid (thru K3.out k9); clear k9))
  go_ret
  exact ⟨rfl, K9.out⟩

set_option maxRecDepth 100000 in
set_option maxHeartbeats 1000000 in
theorem greedy_many (hO : SpaceOk S) (A : Option Addr) (n c : Nat) (fs : List Fl) (f t y : Int) (AZ : Option Addr) (nz cz : Nat) (zs : List Sz) (w : World) (hn : n = fs.length) (hx : Floats w w.heap.size A fs) (hnz : nz = zs.length) (hmz : nz ≤ 9223372036854775807) (hxz : Sizes w w.heap.size AZ zs) (h20 : n ≤ 20) (hs : nearL fs f t y = true) (h40 : 40 < nz) :
    Calls Try.prog 5 #[.slice A n c, .int .i64 f, .int .i64 t, .int .i64 y, .slice AZ nz cz] w fun e w' => e = .returned (.bool true) ∧ Below w.heap.size w w' := by
  have HBe := Lib.hid (llbegin_any hO A n c fs f t y w hn h20 hx hs)
  have h41 : (40 : Int) < (nz : Int) := by omega
  clear hnz hmz hxz hn hx hs
  go_enter Try.func5, Try.ntmps5
  go_upto_region 3 with (first
    | (go_at_call 8; refine HBe.out.mono ?_; rintro e w2 ⟨⟨p, F, rfl, hL, hF⟩, k2⟩; have S2 := Lib.hid (⟨hL, k2, hF⟩ : S w2 F p fs ∧ Below w.heap.size w w2 ∧ ∀ k, F k → w.heap.size ≤ k); clear hL hF k2)
    | (go_at_call 9; refine (lspeaks hO _).mono ?_; rintro e w3 ⟨rfl, k3⟩; have S3 := Lib.hid (⟨thruS hO S2.out.1 k3, thru S2.out.2.1 k3, S2.out.2.2⟩ : S w3 F p fs ∧ Below w.heap.size w w3 ∧ ∀ k, F k → w.heap.size ≤ k); clear k3))
  go_wp2_with (first
    | (go_at_call 9; refine (lspeaks hO _).mono ?_; rintro e w9 ⟨rfl, k9⟩; have K9 := Lib.hid (thru S3.out.2.1 k9); clear k9))
  go_ret
  exact ⟨rfl, K9.out⟩

set_option maxRecDepth 100000 in
set_option maxHeartbeats 1000000 in
theorem greedy_wrong (hO : SpaceOk S) (A : Option Addr) (n c : Nat) (fs : List Fl) (f t y : Int) (AZ : Option Addr) (nz cz : Nat) (zs : List Sz) (w : World) (hn : n = fs.length) (hx : Floats w w.heap.size A fs) (hnz : nz = zs.length) (hmz : nz ≤ 9223372036854775807) (hxz : Sizes w w.heap.size AZ zs) (h20 : n ≤ 20) (hs : nearL fs f t y = true) (h40 : nz ≤ 40) (hr : zs.all rightS = false) :
    Calls Try.prog 5 #[.slice A n c, .int .i64 f, .int .i64 t, .int .i64 y, .slice AZ nz cz] w fun e w' => e = .returned (.bool true) ∧ Below w.heap.size w w' := by
  have HBe := Lib.hid (llbegin_any hO A n c fs f t y w hn h20 hx hs)
  have HRi := Lib.hid (fun w1 (k : Below w.heap.size w w1) => lright_is AZ nz cz zs false w1 hnz hmz (hxz.thru k) hr)
  have h41 : ¬ (40 : Int) < (nz : Int) := by omega
  clear hnz hmz hxz hn hx hs hr
  go_enter Try.func5, Try.ntmps5
  go_upto_region 3 with (first
    | (go_at_call 8; refine HBe.out.mono ?_; rintro e w2 ⟨⟨p, F, rfl, hL, hF⟩, k2⟩; have S2 := Lib.hid (⟨hL, k2, hF⟩ : S w2 F p fs ∧ Below w.heap.size w w2 ∧ ∀ k, F k → w.heap.size ≤ k); clear hL hF k2)
    | (go_at_call 9; refine (lspeaks hO _).mono ?_; rintro e w3 ⟨rfl, k3⟩; have S3 := Lib.hid (⟨thruS hO S2.out.1 k3, thru S2.out.2.1 k3, S2.out.2.2⟩ : S w3 F p fs ∧ Below w.heap.size w w3 ∧ ∀ k, F k → w.heap.size ≤ k); clear k3)
    | (go_at_call 10; refine (HRi.out _ S3.out.2.1).mono ?_; rintro e w4 ⟨rfl, k4⟩; have S4 := Lib.hid (⟨thruS hO S3.out.1 k4, thru S3.out.2.1 k4, S3.out.2.2⟩ : S w4 F p fs ∧ Below w.heap.size w w4 ∧ ∀ k, F k → w.heap.size ≤ k); clear k4))
  go_wp2_with (first
    | (go_at_call 9; refine (lspeaks hO _).mono ?_; rintro e w9 ⟨rfl, k9⟩; have K9 := Lib.hid (thru S4.out.2.1 k9); clear k9))
  go_ret
  exact ⟨rfl, K9.out⟩

set_option maxRecDepth 100000 in
set_option maxHeartbeats 1000000 in
theorem greedy_yes (hO : SpaceOk S) (A : Option Addr) (n c : Nat) (fs : List Fl) (f t y : Int) (AZ : Option Addr) (nz cz : Nat) (zs : List Sz) (w : World) (hn : n = fs.length) (hx : Floats w w.heap.size A fs) (hnz : nz = zs.length) (hmz : nz ≤ 9223372036854775807) (hxz : Sizes w w.heap.size AZ zs) (h20 : n ≤ 20) (hs : nearL fs f t y = true) (h40 : nz ≤ 40) (hr : zs.all rightS = true) :
    Calls Try.prog 5 #[.slice A n c, .int .i64 f, .int .i64 t, .int .i64 y, .slice AZ nz cz] w fun e w' => e = .returned (.bool true) ∧ Below w.heap.size w w' := by
  have HBe := Lib.hid (llbegin_any hO A n c fs f t y w hn h20 hx hs)
  have HRi := Lib.hid (fun w1 (k : Below w.heap.size w w1) => lright_is AZ nz cz zs true w1 hnz hmz (hxz.thru k) hr)
  have h41 : ¬ (40 : Int) < (nz : Int) := by omega
  have hRS := rightS_all hr
  have HNL := Lib.hid (nearL_so hs)
  have HOf := Lib.hid (fun w1 (k : Below w.heap.size w w1) => lof_any AZ nz cz zs w1 hnz (by omega) (hxz.thru k))
  have HNL2 := HNL.out
  have HAl := Lib.hid (fun w1 F p A9 c9 (h : S w1 F p fs) (hz : Sizes w1 w1.heap.size A9 zs) => lall_any hO w1 F p fs f t y A9 nz c9 zs h HNL2.h49 ⟨by have := HNL2.f1; omega, by have := HNL2.f2; omega⟩ ⟨by have := HNL2.t1; omega, by have := HNL2.t2; omega⟩ ⟨by have := HNL2.y1; omega, by have := HNL2.y2; omega⟩ hnz (by omega) hz hRS)
  have hat := atLine_start HNL2 hRS
  have hsl := atLine_len HNL2 hRS
  obtain ⟨sg, hsg⟩ : ∃ sg, segsL ⟨fs, f, t, y, 0, []⟩ zs = sg := ⟨_, rfl⟩
  rw [hsg] at HAl hat hsl
  obtain ⟨q, hq⟩ : ∃ q, sg.length = q := ⟨_, rfl⟩
  rw [hq] at HAl hsl
  have HQ := Lib.hid (⟨hq, by omega⟩ : sg.length = q ∧ q ≤ 40)
  have HAT := Lib.hid hat
  have HRS := Lib.hid hRS
  have HZ := Lib.hid (⟨hnz, by omega⟩ : nz = zs.length ∧ nz ≤ 40)
  have HXZ := Lib.hid hxz
  clear hnz hmz hxz hn hx hs hr hsg hq hRS HNL2 hat hsl
  go_enter Try.func5, Try.ntmps5
  go_upto_region 4 with (first
    | (go_at_call 8; refine HBe.out.mono ?_; rintro e w2 ⟨⟨p, F, rfl, hL, hF⟩, k2⟩; have S2 := Lib.hid (⟨hL, k2, hF⟩ : S w2 F p fs ∧ Below w.heap.size w w2 ∧ ∀ k, F k → w.heap.size ≤ k); clear hL hF k2)
    | (go_at_call 9; refine (lspeaks hO _).mono ?_; rintro e w3 ⟨rfl, k3⟩; have S3 := Lib.hid (⟨thruS hO S2.out.1 k3, thru S2.out.2.1 k3, S2.out.2.2⟩ : S w3 F p fs ∧ Below w.heap.size w w3 ∧ ∀ k, F k → w.heap.size ≤ k); clear k3)
    | (go_at_call 10; refine (HRi.out _ S3.out.2.1).mono ?_; rintro e w4 ⟨rfl, k4⟩; have S4 := Lib.hid (⟨thruS hO S3.out.1 k4, thru S3.out.2.1 k4, S3.out.2.2⟩ : S w4 F p fs ∧ Below w.heap.size w w4 ∧ ∀ k, F k → w.heap.size ≤ k); clear k4))
  go_upto_region 6 with (first
    | (go_at_call 12; refine (HOf.out _ S4.out.2.1).mono ?_; rintro e w5 ⟨⟨A5, c5, rfl, hz5⟩, k5⟩; have S5 := Lib.hid (⟨thruS hO S4.out.1 k5, thru S4.out.2.1 k5, hz5⟩ : S w5 F p fs ∧ Below w.heap.size w w5 ∧ Sizes w5 w5.heap.size A5 zs); clear hz5 k5)
    | (go_at_call 11; refine (HAl.out _ F p A5 c5 S5.out.1 S5.out.2.2).mono ?_; rintro e w6 ⟨⟨A6, c6, rfl, hm6⟩, k6⟩; have S6 := Lib.hid (⟨thruS hO S5.out.1 k6, thru S5.out.2.1 k6, MineE.mono hm6 (Nat.zero_le _)⟩ : S w6 F p fs ∧ Below w.heap.size w w6 ∧ MineE encL 43 w6 0 A6 q c6 (sg.map lnOf)); clear hm6 k6))
  go_loopw [12, 48] (fun u i wr => ∃ k : Nat, k ≤ q ∧ i = .int .i64 (k : Int) ∧ ∃ d : Nat, u = .int .i64 (d : Int) ∧ Hid (S wr F p fs ∧ Below w.heap.size w wr ∧ MineE encL 43 wr 0 A6 q c6 (sg.map lnOf) ∧ ∃ yy, AtLine fs f t zs sg k d yy)) (fun _ i _ => q - (intOf i).toNat)
  case atStart => exact ⟨0, Nat.zero_le _, rfl, 0, rfl, Lib.hid ⟨S6.out.1, S6.out.2.1, S6.out.2.2, y, HAT.out⟩⟩
  case round =>
    obtain ⟨k, hk, rfl, d, rfl, H0⟩ := hrel
    obtain ⟨yy, hyy⟩ := H0.out.2.2.2
    have H := Lib.hid (⟨H0.out.1, H0.out.2.1, H0.out.2.2.1, hyy⟩ : S wr F p fs ∧ Below w.heap.size w wr ∧ MineE encL 43 wr 0 A6 q c6 (sg.map lnOf) ∧ AtLine fs f t zs sg k d yy)
    clear H0 hyy
    by_cases hlt : k < q
    · have hki : (k : Int) < (q : Int) := by omega
      have hk0 : ¬ (k : Int) < 0 := by omega
      have hwk : IntKind.i64.wrap ((k : Int) + 1) = (k : Int) + 1 := by have := HQ.out.2; exact IntWalk.i64_in _ (by omega)
      obtain ⟨s, hs⟩ : ∃ s, sg[k]? = some s := ⟨_, List.getElem?_eq_getElem (by rw [HQ.out.1]; exact hlt)⟩
      obtain ⟨g6, hg6, -, -, -, -⟩ := MineE.form H.out.2.2.1 (by omega)
      subst hg6
      have HT := Lib.hid (tells_of H.out.2.2.2 HNL.out HRS.out hs)
      have hx : (sg.map lnOf)[k]? = some (lnOf s) := by rw [List.getElem?_map, hs]; rfl
      obtain ⟨a0, a1, a2, a3, a4, a5⟩ := linesAt H.out.2.2.1 hx
      obtain ⟨x, hxe⟩ : ∃ x, lnOf s = x := ⟨_, rfl⟩
      rw [hxe] at a0 a1 a2 a3 a4 a5
      have HX := Lib.hid (by subst hxe; exact ⟨rfl, rfl, rfl, rfl, rfl, rfl⟩ : x.l = s.l ∧ x.t = s.top ∧ x.r = s.r ∧ x.b = s.b ∧ x.a = (s.az.length : Int) ∧ x.w = wideL s.az)
      obtain ⟨d2, hd2⟩ : ∃ d2, d + s.az.length = d2 := ⟨_, rfl⟩
      have HD := Lib.hid hd2
      clear hx hs hxe hd2
      go_upto_region 8 with fail
      generalize hW : World.alloc wr _ = W
      obtain ⟨b0, hb0⟩ : ∃ b0, wr.heap.size = b0 := ⟨_, rfl⟩
      have k1 : Below wr.heap.size wr W := by rw [← hW]; exact ba1 _ _
      have z1 : RowAt W b0 (lnrow x) := by rw [← hW, ← hb0]; exact RowAt.new wr _ _
      rw [hb0]
      have S1 := Lib.hid (⟨thruS hO H.out.1 k1, thru H.out.2.1 k1, H.out.2.2.1.below k1, z1⟩ : S W F p fs ∧ Below w.heap.size w W ∧ MineE encL 43 W 0 (some ⟨g6, 0, none⟩) q c6 (sg.map lnOf) ∧ RowAt W b0 (lnrow x))
      clear hW hb0 k1 z1 a0 a1 a2 a3 a4 a5
      have hwd : IntKind.i64.wrap ((d : Int) + x.a) = (d2 : Int) := by
        have := HX.out.2.2.2.2.1
        have := HD.out
        have := HT.out.le
        have := HZ.out
        rw [IntWalk.i64_in _ (by omega)]
        omega
      obtain ⟨c0, c1, c2, c3, c4, c5⟩ := lat_of S1.out.2.2.2
      go_upto_region 9 with fail
      have ha1 : ¬ x.a < 1 := by have := HT.out.pos; have := HX.out.2.2.2.2.1; omega
      by_cases hend : d2 = nz
      · have hge : (d2 : Int) ≥ (nz : Int) := by omega
        go_wp2_with fail
        go_ret
        exact ⟨rfl, S1.out.2.1⟩
      · have hge : ¬ (d2 : Int) ≥ (nz : Int) := by have := HT.out.le; have := HD.out; have := HZ.out; omega
        have hdn : (d2 : Int) < (nz : Int) := by omega
        have hd20 : ¬ (d2 : Int) < 0 := by omega
        obtain ⟨z, hz⟩ : ∃ z, zs[d2]? = some z := ⟨_, List.getElem?_eq_getElem (by have := HZ.out; omega)⟩
        obtain ⟨ad, rfl, -, d0, d1⟩ := (HXZ.out.thru S1.out.2.1) d2 z hz
        have hnf := told_next (HT.out.no z (by rw [HD.out]; exact hz))
        rw [HT.out.ee.1, HT.out.ee.2.1, HT.out.ee.2.2] at hnf
        have hrz := HRS.out z (List.mem_of_getElem? hz)
        obtain ⟨mx, hmx⟩ : ∃ mx, max (highL s.az) z.ht = mx := ⟨_, rfl⟩
        rw [hmx] at hnf
        have e1 := HX.out.2.1
        have e2 := HX.out.2.2.2.1
        have e3 := HX.out.2.2.2.2.2
        have hb : s.b = s.top + highL s.az := rfl
        have hkb := HQ.out.2
        have t1 := HT.out.t1
        have t2 := HT.out.t2
        have y1 := H.out.2.2.2.y1
        have g1 := HT.out.h1
        have g2 := HT.out.h2
        have g3 := hrz.h1
        have g4 := hrz.h2
        have g5 := HT.out.w1
        have g6' := HT.out.w2
        have g7 := hrz.w1
        have g8 := hrz.w2
        have hzl := HZ.out
        have hsub : IntKind.i64.wrap (x.b - x.t) = highL s.az := by rw [IntWalk.i64_in _ (by omega)]; omega
        have hadd : IntKind.i64.wrap (x.w + z.wd) = x.w + z.wd := IntWalk.i64_in _ (by omega)
        have HRo := Lib.hid (fun w1 => hO.rows x.t mx w1 ⟨by omega, by omega⟩ (by omega))
        have hhz : highZ mx ≤ 4503599627370496 := by unfold highZ; split <;> omega
        have HFr := Lib.hid (fun w1 (h : S w1 F p fs) => hO.free w1 F p fs f t x.t (x.t + highZ mx) h (near49_near HNL.out.h49) (by omega) (by omega))
        rw [show max f (bandL fs x.t (x.t + highZ mx)) = freeL fs f x.t mx from rfl, show min t (bandR fs x.t (x.t + highZ mx)) = freeR fs t x.t mx from rfl] at HFr
        rw [← e1] at hnf
        obtain ⟨L1, L2⟩ := bandL_49 HNL.out.h49 x.t (x.t + highZ mx)
        obtain ⟨R1, R2⟩ := bandR_49 HNL.out.h49 x.t (x.t + highZ mx)
        have hLb : -4503599627370496 ≤ freeL fs f x.t mx ∧ freeL fs f x.t mx ≤ 4503599627370496 := by unfold freeL; have := HNL.out.f1; have := HNL.out.f2; omega
        have hRb : -4503599627370496 ≤ freeR fs t x.t mx ∧ freeR fs t x.t mx ≤ 4503599627370496 := by unfold freeR; have := HNL.out.t1; have := HNL.out.t2; omega
        generalize freeL fs f x.t mx = L at *
        generalize freeR fs t x.t mx = R at *
        obtain ⟨dd, hdd⟩ : ∃ dd, R - L = dd := ⟨_, rfl⟩
        have HLd := Lib.hid (fun w => llen_is L R dd (by rw [IntWalk.i64_in _ (by omega)]; exact hdd) w)
        have HLE := Lib.hid (show ¬ x.w + z.wd ≤ dd by rw [e3]; omega)
        have HMX := Lib.hid hmx
        have HAD := Lib.hid hadd
        generalize x.t + highZ mx = yh at *
        clear hz hnf hrz e1 e2 e3 hb hkb t1 t2 y1 g1 g2 g3 g4 g5 g6' g7 g8 hzl hhz L1 L2 R1 R2 hLb hRb hdd hmx hadd
        go_upto_region 11 with fail
        generalize hW : World.alloc W _ = V
        obtain ⟨b1, hb1⟩ : ∃ b1, W.heap.size = b1 := ⟨_, rfl⟩
        have k2 : Below W.heap.size W V := by rw [← hW]; exact ba1 _ _
        have z2 : RowAt V b1 (zcells z) := by rw [← hW, ← hb1]; exact RowAt.new W _ _
        rw [hb1]
        have S2 := Lib.hid (⟨thruS hO S1.out.1 k2, thru S1.out.2.1 k2, S1.out.2.2.1.below k2, S1.out.2.2.2.below (by simp) k2, z2⟩ : S V F p fs ∧ Below w.heap.size w V ∧ MineE encL 43 V 0 (some ⟨g6, 0, none⟩) q c6 (sg.map lnOf) ∧ RowAt V b0 (lnrow x) ∧ RowAt V b1 (zcells z))
        clear hW hb1 k2 z2 c0 c1 c2 c3 c4 c5 d0 d1
        obtain ⟨c0, c1, c2, c3, c4, c5⟩ := lat_of S2.out.2.2.2.1
        obtain ⟨d0, d1, -, -⟩ := two_of S2.out.2.2.2.2
        go_cut [16] (fun u wx => ∃ b2 : Nat, u = .pointer (some ⟨b2, 0, none⟩) ∧ Hid (Below V.heap.size V wx ∧ RowAt wx b2 (two L R)))
        case first =>
          rcases Int.lt_or_le (highL s.az) z.ht with hq | hq
          · obtain rfl : z.ht = mx := by have := HMX.out; omega
            go_wp2_with (first
              | (go_at_call 20; refine (HRo.out _).mono ?_; rintro e v1 ⟨rfl, j1⟩; have J1 := Lib.hid j1; clear j1)
              | (go_at_call 19; refine (HFr.out _ (thruS hO S2.out.1 J1.out)).mono ?_; rintro e v2 ⟨rfl, j2⟩; have J2 := Lib.hid (thru J1.out j2); clear j2))
            all_goals (go_meet; exact ⟨_, rfl, Lib.hid ⟨thru J2.out (ba1 _ _), RowAt.new _ _ _⟩⟩)
          · obtain rfl : highL s.az = mx := by have := HMX.out; omega
            go_wp2_with (first
              | (go_at_call 20; refine (HRo.out _).mono ?_; rintro e v1 ⟨rfl, j1⟩; have J1 := Lib.hid j1; clear j1)
              | (go_at_call 19; refine (HFr.out _ (thruS hO S2.out.1 J1.out)).mono ?_; rintro e v2 ⟨rfl, j2⟩; have J2 := Lib.hid (thru J1.out j2); clear j2))
            all_goals (go_meet; exact ⟨_, rfl, Lib.hid ⟨thru J2.out (ba1 _ _), RowAt.new _ _ _⟩⟩)
        case rest =>
          obtain ⟨b2, rfl, hc⟩ := hcut
          have S3 := Lib.hid (⟨thruS hO S2.out.1 hc.out.1, thru S2.out.2.1 hc.out.1, S2.out.2.2.1.below hc.out.1, S2.out.2.2.2.1.below (by simp) hc.out.1, S2.out.2.2.2.2.below (by simp) hc.out.1, hc.out.2⟩ : S wc F p fs ∧ Below w.heap.size w wc ∧ MineE encL 43 wc 0 (some ⟨g6, 0, none⟩) q c6 (sg.map lnOf) ∧ RowAt wc b0 (lnrow x) ∧ RowAt wc b1 (zcells z) ∧ RowAt wc b2 (two L R))
          clear hc c0 c1 c2 c3 c4 c5 d0 d1 S1 S2
          have HXX := Lib.hid (fun w' (j : Below wc.heap.size wc w') => lat_of (S3.out.2.2.2.1.below (by simp) j))
          have HZZ := Lib.hid (fun w' (j : Below wc.heap.size wc w') => two_of (S3.out.2.2.2.2.1.below (by simp) j))
          have HFF := Lib.hid (fun w' (j : Below wc.heap.size wc w') => two_of (S3.out.2.2.2.2.2.below (by simp) j))
          go_upto_region 12 with fail
          refine HoldAll.wp_region_hold_all [.val (.pointer (some ⟨b0, 5, none⟩)), .val (.int .i64 x.w), .val (.pointer (some ⟨b1, 0, none⟩)), .val (.int .i64 z.wd), .val (.int .i64 (x.w + z.wd)), .val (.agg #[.int .i64 L, .int .i64 R]), .val (.int .i64 dd), .val (.bool false)] (by kernel_rfl) (by kernel_rfl) (by kernel_rfl) ?_ ?_
          · simp only [Hold.fill, Hold.Leave.value]
            refine ⟨?_, ?_, ?_, ?_, ?_, ?_, ?_, ?_, trivial⟩
            · intro gg w' hw hk
              go_simp
              exact ⟨rfl, rfl⟩
            · intro gg w' hw hk
              have q5 := (HXX.out w' hw).2.2.2.2.2
              go_simp
              exact ⟨rfl, rfl⟩
            · intro gg w' hw hk
              go_simp
              exact ⟨rfl, rfl⟩
            · intro gg w' hw hk
              have q0 := (HZZ.out w' hw).1
              go_simp
              exact ⟨rfl, rfl⟩
            · intro gg w' hw hk
              have q := HAD.out
              go_simp
              exact ⟨rfl, rfl⟩
            · intro gg w' hw hk
              have q0 := (HFF.out w' hw).1
              have q1 := (HFF.out w' hw).2.1
              go_simp
              exact ⟨rfl, rfl⟩
            · intro gg w' hw hk
              go_simp
              exact Hold.stays_call (HLd.out w')
            · intro gg w' hw hk
              have q := HLE.out
              go_simp
              exact ⟨rfl, rfl⟩
          intro gg w2 k2 hgg
          clear hgg
          simp only [Hold.fill, Hold.Leave.value]
          have K2 := Lib.hid (⟨thruS hO S3.out.1 k2, thru S3.out.2.1 k2, S3.out.2.2.1.below k2⟩ : S w2 F p fs ∧ Below w.heap.size w w2 ∧ MineE encL 43 w2 0 (some ⟨g6, 0, none⟩) q c6 (sg.map lnOf))
          clear k2
          go_simp
          go_wp2_with fail
          go_roundw
          case rel => exact ⟨k + 1, by omega, by go_num, d2, rfl, Lib.hid ⟨K2.out.1, K2.out.2.1, K2.out.2.2, s.b, by have := HT.out.next; rwa [HD.out] at this⟩⟩
          case measure => simp [intOf]; omega
    · obtain rfl : k = q := by omega
      have hd := atLine_end H.out.2.2.2 HQ.out.1.symm
      have hge : (d : Int) ≥ (nz : Int) := by have := HZ.out.1; omega
      clear hd
      go_wp2_with fail
      go_ret
      exact ⟨rfl, H.out.2.1⟩

theorem greedy_any (hO : SpaceOk S) (A : Option Addr) (n c : Nat) (fs : List Fl) (f t y : Int) (AZ : Option Addr) (nz cz : Nat) (zs : List Sz) (w : World) (hn : n = fs.length) (hx : Floats w w.heap.size A fs) (hnz : nz = zs.length) (hmz : nz ≤ 9223372036854775807) (hxz : Sizes w w.heap.size AZ zs) :
    Calls Try.prog 5 #[.slice A n c, .int .i64 f, .int .i64 t, .int .i64 y, .slice AZ nz cz] w fun e w' => e = .returned (.bool true) ∧ Below w.heap.size w w' := by
  by_cases hh : (nearL fs f t y && decide ((n : Int) ≤ 20)) = true
  · simp only [Bool.and_eq_true, decide_eq_true_eq] at hh
    by_cases h40 : nz ≤ 40
    · by_cases hr : zs.all rightS = true
      · exact greedy_yes hO A n c fs f t y AZ nz cz zs w hn hx hnz hmz hxz (by omega) hh.1 h40 hr
      · exact greedy_wrong hO A n c fs f t y AZ nz cz zs w hn hx hnz hmz hxz (by omega) hh.1 h40 (by simpa using hr)
    · exact greedy_many hO A n c fs f t y AZ nz cz zs w hn hx hnz hmz hxz (by omega) hh.1 (by omega)
  · exact greedy_few hO A n c fs f t y AZ nz cz zs w hn hx hnz hmz hxz (by simpa using hh)

end

end Go.Proofs.Ytmgokpdeolnidaa.Line
