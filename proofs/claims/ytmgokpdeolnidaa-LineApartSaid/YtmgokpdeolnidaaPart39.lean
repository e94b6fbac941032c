/- The law: no full float meets a line; lines stand one below the other; all atoms are in them, each once, in order; they fit. -/
import Derived.Test.YtmgokpdeolnidaaPart38
namespace Go.Proofs.Ytmgokpdeolnidaa.Line
open Go.RowKit Go.Sort Go.Proofs.Ytmgokpdeolnidaa.Rect Go.Proofs.Ytmgokpdeolnidaa.More Go.Proofs.Ytmgokpdeolnidaa.Shelf Go.Proofs.Ytmgokpdeolnidaa.Space Go.Proofs.Ytmgokpdeolnidaa.Place
set_option linter.unusedVariables false
set_option linter.unusedSimpArgs false

theorem floats_mineP {T : TypeId} {w : World} {B : Nat} {A : Option Addr} {n c : Nat} {fs : List Fl} (h : MineE encF T w B A n c fs) : Floats w w.heap.size A fs := fun k f hk => by
  have hn : 0 < n := by have := MineE.len h; have := (List.getElem?_eq_some_iff.1 hk).1; omega
  obtain ⟨g, rfl, -, hg, -, -⟩ := MineE.form h hn
  refine ⟨_, rfl, hg, atF_of fun j v hv => ?_⟩
  have hj : j < 5 := (List.getElem?_eq_some_iff.1 hv).1
  rw [Addr.add_add, Addr.add_lit, Nat.zero_add]
  exact (MineE.at h k f hk j hj).trans hv

section
variable {S : World → (Nat → Prop) → Addr → List Fl → Prop}

set_option maxRecDepth 100000 in
set_option maxHeartbeats 1000000 in
theorem apart_few (hO : SpaceOk S) (A : Option Addr) (n c : Nat) (fs : List Fl) (f t y : Int) (AZ : Option Addr) (nz cz : Nat) (zs : List Sz) (w : World) (hn : n = fs.length) (hx : Floats w w.heap.size A fs) (hnz : nz = zs.length) (hmz : nz ≤ 9223372036854775807) (hcz : nz ≤ cz) (hxz : Sizes w w.heap.size AZ zs) (hv : (nearL fs f t y && decide ((n : Int) ≤ 20)) = false) :
    Calls Try.prog 4 #[.slice A n c, .int .i64 f, .int .i64 t, .int .i64 y, .slice AZ nz cz] w fun e w' => e = .returned (.bool true) ∧ Below w.heap.size w w' := by
  have HBe := Lib.hid (llbegin_no A n c fs f t y w hn hx hv)
  clear hnz hmz hxz hn hx hv
  go_enter Try.func4, Try.ntmps4
  go_upto_region 3 with (first
    | (go_at_call 8; refine HBe.out.mono ?_; rintro e w2 ⟨rfl, k2⟩; have K2 := Lib.hid k2; clear k2)
    | (go_at_call 9; refine (lspeaks hO _).mono ?_; rintro e w3 ⟨rfl, k3⟩; have K3 := Lib.hid (thru K2.out k3); clear k3))
  go_wp2_with (first
    | (go_at_call 9; refine (lspeaks hO _).mono ?_; rintro e w9 ⟨rfl, k9⟩; have K9 := Lib.hid (thru K3.out k9); clear k9))
  go_ret
  exact ⟨rfl, K9.out⟩

set_option maxRecDepth 100000 in
set_option maxHeartbeats 1000000 in
theorem apart_many (hO : SpaceOk S) (A : Option Addr) (n c : Nat) (fs : List Fl) (f t y : Int) (AZ : Option Addr) (nz cz : Nat) (zs : List Sz) (w : World) (hn : n = fs.length) (hx : Floats w w.heap.size A fs) (hnz : nz = zs.length) (hmz : nz ≤ 9223372036854775807) (hcz : nz ≤ cz) (hxz : Sizes w w.heap.size AZ zs) (h20 : n ≤ 20) (hs : nearL fs f t y = true) (h40 : 40 < nz) :
    Calls Try.prog 4 #[.slice A n c, .int .i64 f, .int .i64 t, .int .i64 y, .slice AZ nz cz] w fun e w' => e = .returned (.bool true) ∧ Below w.heap.size w w' := by
  have HBe := Lib.hid (llbegin_any hO A n c fs f t y w hn h20 hx hs)
  have h41 : (40 : Int) < (nz : Int) := by omega
  clear hnz hmz hxz hn hx hs
  go_enter Try.func4, Try.ntmps4
  go_upto_region 3 with (first
    | (go_at_call 8; refine HBe.out.mono ?_; rintro e w2 ⟨⟨p, F, rfl, hL, hF⟩, k2⟩; have S2 := Lib.hid (⟨hL, k2, hF⟩ : S w2 F p fs ∧ Below w.heap.size w w2 ∧ ∀ k, F k → w.heap.size ≤ k); clear hL hF k2)
    | (go_at_call 9; refine (lspeaks hO _).mono ?_; rintro e w3 ⟨rfl, k3⟩; have S3 := Lib.hid (⟨thruS hO S2.out.1 k3, thru S2.out.2.1 k3, S2.out.2.2⟩ : S w3 F p fs ∧ Below w.heap.size w w3 ∧ ∀ k, F k → w.heap.size ≤ k); clear k3))
  go_wp2_with (first
    | (go_at_call 9; refine (lspeaks hO _).mono ?_; rintro e w9 ⟨rfl, k9⟩; have K9 := Lib.hid (thru S3.out.2.1 k9); clear k9))
  go_ret
  exact ⟨rfl, K9.out⟩

set_option maxRecDepth 100000 in
set_option maxHeartbeats 1000000 in
theorem apart_wrong (hO : SpaceOk S) (A : Option Addr) (n c : Nat) (fs : List Fl) (f t y : Int) (AZ : Option Addr) (nz cz : Nat) (zs : List Sz) (w : World) (hn : n = fs.length) (hx : Floats w w.heap.size A fs) (hnz : nz = zs.length) (hmz : nz ≤ 9223372036854775807) (hcz : nz ≤ cz) (hxz : Sizes w w.heap.size AZ zs) (h20 : n ≤ 20) (hs : nearL fs f t y = true) (h40 : nz ≤ 40) (hr : zs.all rightS = false) :
    Calls Try.prog 4 #[.slice A n c, .int .i64 f, .int .i64 t, .int .i64 y, .slice AZ nz cz] w fun e w' => e = .returned (.bool true) ∧ Below w.heap.size w w' := by
  have HBe := Lib.hid (llbegin_any hO A n c fs f t y w hn h20 hx hs)
  have HRi := Lib.hid (fun w1 (k : Below w.heap.size w w1) => lright_is AZ nz cz zs false w1 hnz hmz (hxz.thru k) hr)
  have h41 : ¬ (40 : Int) < (nz : Int) := by omega
  clear hnz hmz hxz hn hx hs hr
  go_enter Try.func4, Try.ntmps4
  go_upto_region 3 with (first
    | (go_at_call 8; refine HBe.out.mono ?_; rintro e w2 ⟨⟨p, F, rfl, hL, hF⟩, k2⟩; have S2 := Lib.hid (⟨hL, k2, hF⟩ : S w2 F p fs ∧ Below w.heap.size w w2 ∧ ∀ k, F k → w.heap.size ≤ k); clear hL hF k2)
    | (go_at_call 9; refine (lspeaks hO _).mono ?_; rintro e w3 ⟨rfl, k3⟩; have S3 := Lib.hid (⟨thruS hO S2.out.1 k3, thru S2.out.2.1 k3, S2.out.2.2⟩ : S w3 F p fs ∧ Below w.heap.size w w3 ∧ ∀ k, F k → w.heap.size ≤ k); clear k3)
    | (go_at_call 10; refine (HRi.out _ S3.out.2.1).mono ?_; rintro e w4 ⟨rfl, k4⟩; have S4 := Lib.hid (⟨thruS hO S3.out.1 k4, thru S3.out.2.1 k4, S3.out.2.2⟩ : S w4 F p fs ∧ Below w.heap.size w w4 ∧ ∀ k, F k → w.heap.size ≤ k); clear k4))
  go_wp2_with (first
    | (go_at_call 9; refine (lspeaks hO _).mono ?_; rintro e w9 ⟨rfl, k9⟩; have K9 := Lib.hid (thru S4.out.2.1 k9); clear k9))
  go_ret
  exact ⟨rfl, K9.out⟩

set_option maxRecDepth 100000 in
set_option maxHeartbeats 8000000 in
theorem apart_yes (hO : SpaceOk S) (A : Option Addr) (n c : Nat) (fs : List Fl) (f t y : Int) (AZ : Option Addr) (nz cz : Nat) (zs : List Sz) (w : World) (hn : n = fs.length) (hx : Floats w w.heap.size A fs) (hnz : nz = zs.length) (hmz : nz ≤ 9223372036854775807) (hcz : nz ≤ cz) (hxz : Sizes w w.heap.size AZ zs) (h20 : n ≤ 20) (hs : nearL fs f t y = true) (h40 : nz ≤ 40) (hr : zs.all rightS = true) :
    Calls Try.prog 4 #[.slice A n c, .int .i64 f, .int .i64 t, .int .i64 y, .slice AZ nz cz] w fun e w' => e = .returned (.bool true) ∧ Below w.heap.size w w' := by
  have HBe := Lib.hid (llbegin_any hO A n c fs f t y w hn h20 hx hs)
  have HRi := Lib.hid (fun w1 (k : Below w.heap.size w w1) => lright_is AZ nz cz zs true w1 hnz hmz (hxz.thru k) hr)
  have h41 : ¬ (40 : Int) < (nz : Int) := by omega
  have hRS := rightS_all hr
  have HNL := Lib.hid (nearL_so hs)
  have HOf := Lib.hid (fun w1 (k : Below w.heap.size w w1) => lof_any AZ nz cz zs w1 hnz (by omega) (hxz.thru k))
  have HNL2 := HNL.out
  have HAl := Lib.hid (fun w1 F p A9 c9 (h : S w1 F p fs) (hz : Sizes w1 w1.heap.size A9 zs) => lall_any hO w1 F p fs f t y A9 nz c9 zs h HNL2.h49 ⟨by have := HNL2.f1; omega, by have := HNL2.f2; omega⟩ ⟨by have := HNL2.t1; omega, by have := HNL2.t2; omega⟩ ⟨by have := HNL2.y1; omega, by have := HNL2.y2; omega⟩ hnz (by omega) hz hRS)
  have hat := atLine_start HNL2 hRS
  have hsl := atLine_len HNL2 hRS
  obtain ⟨sg, hsg⟩ : ∃ sg, segsL ⟨fs, f, t, y, 0, []⟩ zs = sg := ⟨_, rfl⟩
  rw [hsg] at HAl hat hsl
  obtain ⟨q, hq⟩ : ∃ q, sg.length = q := ⟨_, rfl⟩
  rw [hq] at HAl hsl
  have HQ := Lib.hid (⟨hq, by omega⟩ : sg.length = q ∧ q ≤ 40)
  have HAT := Lib.hid hat
  have HRS := Lib.hid hRS
  have HZ := Lib.hid (⟨hnz, by omega⟩ : nz = zs.length ∧ nz ≤ 40)
  have HXZ := Lib.hid hxz
  have HCZ := Lib.hid hcz
  have HNN := Lib.hid (show fs.length ≤ 20 by omega)
  have HFl := Lib.hid (fun w1 F p (h : S w1 F p fs) => hO.floats w1 F p fs h (near49_near HNL2.h49))
  clear hnz hmz hxz hn hx hs hr hsg hq hRS HNL2 hat hsl hcz
  go_enter Try.func4, Try.ntmps4
  go_upto_region 4 with (first
    | (go_at_call 8; refine HBe.out.mono ?_; rintro e w2 ⟨⟨p, F, rfl, hL, hF⟩, k2⟩; have S2 := Lib.hid (⟨hL, k2, hF⟩ : S w2 F p fs ∧ Below w.heap.size w w2 ∧ ∀ k, F k → w.heap.size ≤ k); clear hL hF k2)
    | (go_at_call 9; refine (lspeaks hO _).mono ?_; rintro e w3 ⟨rfl, k3⟩; have S3 := Lib.hid (⟨thruS hO S2.out.1 k3, thru S2.out.2.1 k3, S2.out.2.2⟩ : S w3 F p fs ∧ Below w.heap.size w w3 ∧ ∀ k, F k → w.heap.size ≤ k); clear k3)
    | (go_at_call 10; refine (HRi.out _ S3.out.2.1).mono ?_; rintro e w4 ⟨rfl, k4⟩; have S4 := Lib.hid (⟨thruS hO S3.out.1 k4, thru S3.out.2.1 k4, S3.out.2.2⟩ : S w4 F p fs ∧ Below w.heap.size w w4 ∧ ∀ k, F k → w.heap.size ≤ k); clear k4))
  go_upto_region 6 with (first
    | (go_at_call 12; refine (HOf.out _ S4.out.2.1).mono ?_; rintro e w5 ⟨⟨A5, c5, rfl, hz5⟩, k5⟩; have S5 := Lib.hid (⟨thruS hO S4.out.1 k5, thru S4.out.2.1 k5, hz5⟩ : S w5 F p fs ∧ Below w.heap.size w w5 ∧ Sizes w5 w5.heap.size A5 zs); clear hz5 k5)
    | (go_at_call 11; refine (HAl.out _ F p A5 c5 S5.out.1 S5.out.2.2).mono ?_; rintro e w6 ⟨⟨A6, c6, rfl, hm6⟩, k6⟩; have S6 := Lib.hid (⟨thruS hO S5.out.1 k6, thru S5.out.2.1 k6, MineE.mono hm6 (Nat.zero_le _)⟩ : S w6 F p fs ∧ Below w.heap.size w w6 ∧ MineE encL 43 w6 0 A6 q c6 (sg.map lnOf)); clear hm6 k6))
  go_loopw [3, 12, 49] (fun v u i wr => ∃ k : Nat, k ≤ q ∧ i = .int .i64 (k : Int) ∧ ∃ (d : Nat) (yy : Int), v = .int .i64 yy ∧ u = .int .i64 (d : Int) ∧ Hid (S wr F p fs ∧ Below w.heap.size w wr ∧ MineE encL 43 wr 0 A6 q c6 (sg.map lnOf) ∧ AtLine fs f t zs sg k d yy)) (fun _ _ i _ => q - (intOf i).toNat)
  case atStart => exact ⟨0, Nat.zero_le _, rfl, 0, y, rfl, rfl, Lib.hid ⟨S6.out.1, S6.out.2.1, S6.out.2.2, HAT.out⟩⟩
  case round =>
    obtain ⟨k, hk, rfl, d, yy, rfl, rfl, H⟩ := hrel
    by_cases hlt : k < q
    · have hki : (k : Int) < (q : Int) := by omega
      have hk0 : ¬ (k : Int) < 0 := by omega
      have hwk : IntKind.i64.wrap ((k : Int) + 1) = (k : Int) + 1 := by have := HQ.out.2; exact IntWalk.i64_in _ (by omega)
      obtain ⟨s, hs⟩ : ∃ s, sg[k]? = some s := ⟨_, List.getElem?_eq_getElem (by rw [HQ.out.1]; exact hlt)⟩
      obtain ⟨g6, hg6, -, -, -, -⟩ := MineE.form H.out.2.2.1 (by omega)
      subst hg6
      have HT := Lib.hid (tells_of H.out.2.2.2 HNL.out HRS.out hs)
      have hx : (sg.map lnOf)[k]? = some (lnOf s) := by rw [List.getElem?_map, hs]; rfl
      obtain ⟨a0, a1, a2, a3, a4, a5⟩ := linesAt H.out.2.2.1 hx
      obtain ⟨x, hxe⟩ : ∃ x, lnOf s = x := ⟨_, rfl⟩
      rw [hxe] at a0 a1 a2 a3 a4 a5
      have HX := Lib.hid (by subst hxe; exact ⟨rfl, rfl, rfl, rfl, rfl, rfl⟩ : x.l = s.l ∧ x.t = s.top ∧ x.r = s.r ∧ x.b = s.b ∧ x.a = (s.az.length : Int) ∧ x.w = wideL s.az)
      obtain ⟨d2, hd2⟩ : ∃ d2, d + s.az.length = d2 := ⟨_, rfl⟩
      have HD := Lib.hid hd2
      clear hx hs hxe hd2
      go_upto_region 8 with fail
      generalize hW : World.alloc wr _ = W
      obtain ⟨b0, hb0⟩ : ∃ b0, wr.heap.size = b0 := ⟨_, rfl⟩
      have k1 : Below wr.heap.size wr W := by rw [← hW]; exact ba1 _ _
      have z1 : RowAt W b0 (lnrow x) := by rw [← hW, ← hb0]; exact RowAt.new wr _ _
      rw [hb0]
      have S1 := Lib.hid (⟨thruS hO H.out.1 k1, thru H.out.2.1 k1, H.out.2.2.1.below k1, z1⟩ : S W F p fs ∧ Below w.heap.size w W ∧ MineE encL 43 W 0 (some ⟨g6, 0, none⟩) q c6 (sg.map lnOf) ∧ RowAt W b0 (lnrow x))
      clear hW hb0 k1 z1 a0 a1 a2 a3 a4 a5
      have hwd : IntKind.i64.wrap ((d : Int) + x.a) = (d2 : Int) := by
        have := HX.out.2.2.2.2.1
        have := HD.out
        have := HT.out.le
        have := HZ.out
        rw [IntWalk.i64_in _ (by omega)]
        omega
      have n1 : ¬ x.t < yy := by rw [HX.out.2.1]; have := HT.out.t1; omega
      have n4 : ¬ x.a < 1 := by have := HT.out.pos; have := HX.out.2.2.2.2.1; omega
      have n5 : ¬ (d2 : Int) > (nz : Int) := by have := HT.out.le; have := HD.out; have := HZ.out; omega
      obtain ⟨c0, c1, c2, c3, c4, c5⟩ := lat_of S1.out.2.2.2
      go_upto_region 10 with fail
      have hp1 : ¬ (d : Int) < 0 := by omega
      have hp2 : (d : Int) ≤ (d2 : Int) := by have := HD.out; omega
      have hp3 : (d2 : Int) ≤ (cz : Int) := by have := HT.out.le; have := HD.out; have := HZ.out; have := HCZ.out; omega
      have hp4 : ¬ cz = d := by have := HT.out.le; have := HD.out; have := HZ.out; have := HCZ.out; have := HT.out.pos; omega
      obtain ⟨PZ, hPZ⟩ : ∃ PZ, backZ AZ cz d = PZ := ⟨_, rfl⟩
      have HP := Lib.hid (by
        have h := HXZ.out.part HZ.out.1 HCZ.out d s.az.length (by have := HT.out.le; have := HZ.out; omega)
        rw [← HT.out.az, hPZ] at h
        exact h : Sizes w w.heap.size PZ s.az)
      go_cut [15] (fun a wx => a = .slice PZ s.az.length (cz - d) ∧ wx = W)
      case first =>
        have hlen : d2 - d = s.az.length := by have := HD.out; omega
        unfold backZ at hPZ
        rw [if_neg hp4] at hPZ
        go_wp2_with fail
        all_goals (go_meet; refine ⟨?_, rfl⟩)
        all_goals first
          | (simp [hPZ, hlen]; done)
          | (simp [← hPZ, hlen]; done)
          | (simp [hlen]; omega)
      case rest =>
        obtain ⟨rfl, rfl⟩ := hcut
        clear hp1 hp2 hp3 hp4 hPZ n1 n4 n5
        have S2 := Lib.hid (⟨S1.out.1, S1.out.2.1, S1.out.2.2.1, S1.out.2.2.2⟩ : S wc F p fs ∧ Below w.heap.size w wc ∧ MineE encL 43 wc 0 (some ⟨g6, 0, none⟩) q c6 (sg.map lnOf) ∧ RowAt wc b0 (lnrow x))
        clear S1
        have hra : ∀ v ∈ s.az, RightS v := fun v hv => HRS.out v (List.mem_of_mem_drop (i := d) (List.mem_of_mem_take (by rw [← HT.out.az]; exact hv)))
        obtain ⟨m, hm⟩ : ∃ m, s.az.length = m := ⟨_, rfl⟩
        rw [hm]
        have HM := Lib.hid hm
        have hml : m ≤ 40 := by have := HT.out.le; have := HZ.out; omega
        have HWi := Lib.hid (fun w1 (k1 : Below w.heap.size w w1) => refwide_any PZ m (cz - d) s.az w1 hm.symm (by omega) (HP.out.thru k1) hra)
        have HHi := Lib.hid (fun w1 (k1 : Below w.heap.size w w1) => refhigh_any PZ m (cz - d) s.az w1 hm.symm (by omega) (HP.out.thru k1))
        have e1 := HX.out.2.1
        have e2 := HX.out.2.2.2.1
        have e3 := HX.out.2.2.2.2.2
        have hb : s.b = s.top + highL s.az := rfl
        have g1 := HT.out.h1
        have g2 := HT.out.h2
        have hsub : IntKind.i64.wrap (x.b - x.t) = highL s.az := by rw [IntWalk.i64_in _ (by omega)]; omega
        rw [← e3] at HWi
        have HSB := Lib.hid hsub
        obtain ⟨hi, hhi⟩ : ∃ hi, highL s.az = hi := ⟨_, rfl⟩
        rw [hhi] at HHi HSB
        have HHE := Lib.hid (⟨hhi, by rw [e2, hb, ← e1, hhi]⟩ : highL s.az = hi ∧ x.b = x.t + hi)
        have l1 := HT.out.l1
        have r1 := HT.out.r1
        have x1 := HX.out.1
        have x3 := HX.out.2.2.1
        have hrl : IntKind.i64.wrap (x.r - x.l) = x.r - x.l := IntWalk.i64_in _ (by omega)
        obtain ⟨dl, hdl⟩ : ∃ dl, x.r - x.l = dl := ⟨_, rfl⟩
        have HRL := Lib.hid (hrl.trans hdl)
        have HDL := Lib.hid hdl
        clear hdl
        have hft : IntKind.i64.wrap (t - f) = t - f := by
          have := HNL.out.f1
          have := HNL.out.f2
          have := HNL.out.t1
          have := HNL.out.t2
          exact IntWalk.i64_in _ (by omega)
        have HFT := Lib.hid hft
        clear hm hra e1 e2 e3 hb g1 g2 hsub hhi l1 r1 x1 x3 hrl hft
        clear c0 c1 c2 c3 c4 c5
        have c4 : wc.cell? ⟨b0, 4, none⟩ = some (.int .i64 x.a) := S2.out.2.2.2.at' 4
        go_upto_region 12 with fail
        clear c4
        have HXX := Lib.hid (fun w' (j : Below wc.heap.size wc w') => lat_of (S2.out.2.2.2.below (by simp) j))
        have HKK := Lib.hid (fun w' (j : Below wc.heap.size wc w') => thru S2.out.2.1 j)
        refine HoldAll.wp_region_hold_all [.val (.pointer (some ⟨b0, 5, none⟩)), .val (.int .i64 x.w), .val (.slice PZ m (cz - d)), .val (.int .i64 x.w), .val (.bool false), .val (.bool false), .val (.pointer (some ⟨b0, 0, none⟩)), .val (.pointer (some ⟨b0, 3, none⟩)), .val (.int .i64 x.b), .val (.pointer (some ⟨b0, 0, none⟩)), .val (.pointer (some ⟨b0, 1, none⟩)), .val (.int .i64 x.t), .val (.int .i64 hi), .val (.slice PZ m (cz - d)), .val (.int .i64 hi), .val (.bool false), .val (.bool false)] (by kernel_rfl) (by kernel_rfl) (by kernel_rfl) ?_ ?_
        · simp only [Hold.fill, Hold.Leave.value]
          refine ⟨?_, ?_, ?_, ?_, ?_, ?_, ?_, ?_, ?_, ?_, ?_, ?_, ?_, ?_, ?_, ?_, ?_, trivial⟩
          · intro gg w' hw hk
            go_simp
            exact ⟨rfl, rfl⟩
          · intro gg w' hw hk
            have q5 := (HXX.out w' hw).2.2.2.2.2
            go_simp
            exact ⟨rfl, rfl⟩
          · intro gg w' hw hk
            go_simp
            exact ⟨rfl, rfl⟩
          · intro gg w' hw hk
            go_simp
            exact Hold.stays_call (HWi.out w' (HKK.out w' hw))
          · intro gg w' hw hk
            go_simp
            exact ⟨rfl, rfl⟩
          · intro gg w' hw hk
            go_simp
            exact ⟨rfl, rfl⟩
          · intro gg w' hw hk
            go_simp
            exact ⟨rfl, rfl⟩
          · intro gg w' hw hk
            go_simp
            exact ⟨rfl, rfl⟩
          · intro gg w' hw hk
            have q3 := (HXX.out w' hw).2.2.2.1
            go_simp
            exact ⟨rfl, rfl⟩
          · intro gg w' hw hk
            go_simp
            exact ⟨rfl, rfl⟩
          · intro gg w' hw hk
            go_simp
            exact ⟨rfl, rfl⟩
          · intro gg w' hw hk
            have q1 := (HXX.out w' hw).2.1
            go_simp
            exact ⟨rfl, rfl⟩
          · intro gg w' hw hk
            have q := HSB.out
            go_simp
            exact ⟨rfl, rfl⟩
          · intro gg w' hw hk
            go_simp
            exact ⟨rfl, rfl⟩
          · intro gg w' hw hk
            go_simp
            exact Hold.stays_call (HHi.out w' (HKK.out w' hw))
          · intro gg w' hw hk
            go_simp
            exact ⟨rfl, rfl⟩
          · intro gg w' hw hk
            go_simp
            exact ⟨rfl, rfl⟩
        intro gg w7 k7 hgg
        clear hgg
        simp only [Hold.fill, Hold.Leave.value]
        have S3 := Lib.hid (⟨thruS hO S2.out.1 k7, thru S2.out.2.1 k7, S2.out.2.2.1.below k7, S2.out.2.2.2.below (by simp) k7⟩ : S w7 F p fs ∧ Below w.heap.size w w7 ∧ MineE encL 43 w7 0 (some ⟨g6, 0, none⟩) q c6 (sg.map lnOf) ∧ RowAt w7 b0 (lnrow x))
        clear k7 HXX HKK HWi HHi S2
        go_simp
        go_upto_region 14 with fail
        have HXX := Lib.hid (fun w' (j : Below w7.heap.size w7 w') => lat_of (S3.out.2.2.2.below (by simp) j))
        go_cut [143] (fun a wx => a = .bool false ∧ Below w7.heap.size w7 wx)
        case first =>
          by_cases hle : x.w ≤ dl
          · have HLE := Lib.hid (show ¬ dl < x.w by omega)
            clear hle
            refine Hold2.wp_region_hold_all2 [.val (.pointer (some ⟨b0, 5, none⟩)), .val (.int .i64 x.w), .val (.pointer (some ⟨b0, 0, none⟩)), .val (.pointer (some ⟨b0, 2, none⟩)), .val (.int .i64 x.r), .val (.pointer (some ⟨b0, 0, none⟩)), .val (.pointer (some ⟨b0, 0, none⟩)), .val (.int .i64 x.l), .val (.int .i64 dl), .val (.bool false), .val (.bool false), .skip, .skip, .skip, .skip, .skip, .skip, .skip, .skip, .skip, .skip, .skip, .skip, .skip, .skip, .skip, .skip, .skip, .skip, .skip, .skip, .skip, .skip, .skip, .skip, .skip, .skip, .skip, .skip, .skip, .skip, .skip, .skip, .val (.bool false)] (by kernel_rfl) (by kernel_rfl) (by kernel_rfl) ?_ ?_
            · simp only [Hold.fill, Hold.Leave.value]
              refine ⟨?_, ?_, ?_, ?_, ?_, ?_, ?_, ?_, ?_, ?_, ?_, trivial, trivial, trivial, trivial, trivial, trivial, trivial, trivial, trivial, trivial, trivial, trivial, trivial, trivial, trivial, trivial, trivial, trivial, trivial, trivial, trivial, trivial, trivial, trivial, trivial, trivial, trivial, trivial, trivial, trivial, trivial, trivial, ?_, trivial⟩
              · intro gg w' hw hk
                go_simp
                exact ⟨rfl, rfl⟩
              · intro gg w' hw hk
                have q5 := (HXX.out w' hw).2.2.2.2.2
                go_simp
                exact ⟨rfl, rfl⟩
              · intro gg w' hw hk
                go_simp
                exact ⟨rfl, rfl⟩
              · intro gg w' hw hk
                go_simp
                exact ⟨rfl, rfl⟩
              · intro gg w' hw hk
                have q2 := (HXX.out w' hw).2.2.1
                go_simp
                exact ⟨rfl, rfl⟩
              · intro gg w' hw hk
                go_simp
                exact ⟨rfl, rfl⟩
              · intro gg w' hw hk
                go_simp
                exact ⟨rfl, rfl⟩
              · intro gg w' hw hk
                have q0 := (HXX.out w' hw).1
                go_simp
                exact ⟨rfl, rfl⟩
              · intro gg w' hw hk
                have q := HRL.out
                go_simp
                exact ⟨rfl, rfl⟩
              · intro gg w' hw hk
                have q := HLE.out
                go_simp
                exact ⟨rfl, rfl⟩
              · intro gg w' hw hk
                go_simp
                exact ⟨rfl, rfl⟩
              · intro gg w' hw hk
                go_simp
                exact ⟨rfl, rfl⟩
            intro gg w8 k8 hgg
            clear hgg
            simp only [Hold.fill, Hold.Leave.value]
            go_simp
            go_wp2_with fail
            go_meet
            exact ⟨rfl, k8⟩
          · have hnle : ¬ wideL s.az ≤ s.r - s.l := by have := HX.out; have := HDL.out; omega
            obtain ⟨z, hz, hzw, hl, hr, hww⟩ := told_wide HT.out.good HT.out.ne hnle
            rw [HT.out.ee.2.2, HT.out.ee.2.1] at hzw
            rw [HT.out.ee.2.1] at hl
            rw [HT.out.ee.2.2] at hr
            have HLE := Lib.hid (show dl < x.w by omega)
            have HQ1 := Lib.hid (⟨by have := HX.out; omega, by have := HX.out; omega, by have := HX.out; omega, hzw⟩ : x.l = f ∧ x.r = t ∧ x.w = z.wd ∧ t - f < z.wd)
            obtain ⟨ad, hPad, -, hat⟩ := (HP.out.thru S3.out.2.1) 0 z (by rw [hz]; rfl)
            have had : ad.add (0 * 2) = ad := by simp [Addr.add]
            have hpa : ∀ w', Below w7.heap.size w7 w' → w'.cell? ad = some (.int .i64 z.wd) := fun w' j => by have h := (AtZ.below hat (block_lt_of_cell hat.1) j).1; rwa [had] at h
            have HPA := Lib.hid hpa
            subst hPad
            clear hle hnle hz hzw hl hr hww hat had hpa
            refine Hold2.wp_region_hold_all2 [.val (.pointer (some ⟨b0, 5, none⟩)), .val (.int .i64 x.w), .val (.pointer (some ⟨b0, 0, none⟩)), .val (.pointer (some ⟨b0, 2, none⟩)), .val (.int .i64 x.r), .val (.pointer (some ⟨b0, 0, none⟩)), .val (.pointer (some ⟨b0, 0, none⟩)), .val (.int .i64 x.l), .val (.int .i64 dl), .val (.bool true), .val (.bool true), .val (.pointer (some ⟨b0, 0, none⟩)), .val (.pointer (some ⟨b0, 0, none⟩)), .val (.int .i64 x.l), .val (.int .i64 f), .val (.bool true), .val (.bool true), .val (.pointer (some ⟨b0, 0, none⟩)), .val (.pointer (some ⟨b0, 2, none⟩)), .val (.int .i64 x.r), .val (.int .i64 t), .val (.bool true), .val (.bool true), .val (.bool true), .val (.slice (some ad) m (cz - d)), .val (.pointer (some ad)), .val (.pointer (some ad)), .val (.int .i64 z.wd), .val (.int .i64 t), .val (.int .i64 f), .val (.int .i64 (t - f)), .val (.bool true), .val (.bool true), .val (.bool true), .val (.pointer (some ⟨b0, 5, none⟩)), .val (.int .i64 x.w), .val (.slice (some ad) m (cz - d)), .val (.pointer (some ad)), .val (.pointer (some ad)), .val (.int .i64 z.wd), .val (.bool true), .val (.bool true), .val (.bool false), .val (.bool false)] (by kernel_rfl) (by kernel_rfl) (by kernel_rfl) ?_ ?_
            · simp only [Hold.fill, Hold.Leave.value]
              refine ⟨?_, ?_, ?_, ?_, ?_, ?_, ?_, ?_, ?_, ?_, ?_, ?_, ?_, ?_, ?_, ?_, ?_, ?_, ?_, ?_, ?_, ?_, ?_, ?_, ?_, ?_, ?_, ?_, ?_, ?_, ?_, ?_, ?_, ?_, ?_, ?_, ?_, ?_, ?_, ?_, ?_, ?_, ?_, ?_, trivial⟩
              · intro gg w' hw hk
                go_simp
                exact ⟨rfl, rfl⟩
              · intro gg w' hw hk
                have q5 := (HXX.out w' hw).2.2.2.2.2
                go_simp
                exact ⟨rfl, rfl⟩
              · intro gg w' hw hk
                go_simp
                exact ⟨rfl, rfl⟩
              · intro gg w' hw hk
                go_simp
                exact ⟨rfl, rfl⟩
              · intro gg w' hw hk
                have q2 := (HXX.out w' hw).2.2.1
                go_simp
                exact ⟨rfl, rfl⟩
              · intro gg w' hw hk
                go_simp
                exact ⟨rfl, rfl⟩
              · intro gg w' hw hk
                go_simp
                exact ⟨rfl, rfl⟩
              · intro gg w' hw hk
                have q0 := (HXX.out w' hw).1
                go_simp
                exact ⟨rfl, rfl⟩
              · intro gg w' hw hk
                have q := HRL.out
                go_simp
                exact ⟨rfl, rfl⟩
              · intro gg w' hw hk
                have q := HLE.out
                go_simp
                exact ⟨rfl, rfl⟩
              · intro gg w' hw hk
                go_simp
                exact ⟨rfl, rfl⟩
              · intro gg w' hw hk
                go_simp
                exact ⟨rfl, rfl⟩
              · intro gg w' hw hk
                go_simp
                exact ⟨rfl, rfl⟩
              · intro gg w' hw hk
                have q0 := (HXX.out w' hw).1
                go_simp
                exact ⟨rfl, rfl⟩
              · intro gg w' hw hk
                go_simp
                exact ⟨rfl, rfl⟩
              · intro gg w' hw hk
                have q := HQ1.out.1
                go_simp
                exact ⟨rfl, rfl⟩
              · intro gg w' hw hk
                go_simp
                exact ⟨rfl, rfl⟩
              · intro gg w' hw hk
                go_simp
                exact ⟨rfl, rfl⟩
              · intro gg w' hw hk
                go_simp
                exact ⟨rfl, rfl⟩
              · intro gg w' hw hk
                have q2 := (HXX.out w' hw).2.2.1
                go_simp
                exact ⟨rfl, rfl⟩
              · intro gg w' hw hk
                go_simp
                exact ⟨rfl, rfl⟩
              · intro gg w' hw hk
                have q := HQ1.out.2.1
                go_simp
                exact ⟨rfl, rfl⟩
              · intro gg w' hw hk
                go_simp
                exact ⟨rfl, rfl⟩
              · intro gg w' hw hk
                go_simp
                exact ⟨rfl, rfl⟩
              · intro gg w' hw hk
                go_simp
                exact ⟨rfl, rfl⟩
              · intro gg w' hw hk
                have q : 0 < m := by have := HM.out; have := HT.out.pos; omega
                go_simp
                exact ⟨rfl, rfl⟩
              · intro gg w' hw hk
                go_simp
                exact ⟨rfl, rfl⟩
              · intro gg w' hw hk
                have q := HPA.out w' hw
                go_simp
                exact ⟨rfl, rfl⟩
              · intro gg w' hw hk
                go_simp
                exact ⟨rfl, rfl⟩
              · intro gg w' hw hk
                go_simp
                exact ⟨rfl, rfl⟩
              · intro gg w' hw hk
                have q := HFT.out
                go_simp
                exact ⟨rfl, rfl⟩
              · intro gg w' hw hk
                have q := HQ1.out.2.2.2
                go_simp
                exact ⟨rfl, rfl⟩
              · intro gg w' hw hk
                go_simp
                exact ⟨rfl, rfl⟩
              · intro gg w' hw hk
                go_simp
                exact ⟨rfl, rfl⟩
              · intro gg w' hw hk
                go_simp
                exact ⟨rfl, rfl⟩
              · intro gg w' hw hk
                have q5 := (HXX.out w' hw).2.2.2.2.2
                go_simp
                exact ⟨rfl, rfl⟩
              · intro gg w' hw hk
                go_simp
                exact ⟨rfl, rfl⟩
              · intro gg w' hw hk
                have q : 0 < m := by have := HM.out; have := HT.out.pos; omega
                go_simp
                exact ⟨rfl, rfl⟩
              · intro gg w' hw hk
                go_simp
                exact ⟨rfl, rfl⟩
              · intro gg w' hw hk
                have q := HPA.out w' hw
                go_simp
                exact ⟨rfl, rfl⟩
              · intro gg w' hw hk
                have q := HQ1.out.2.2.1
                go_simp
                exact ⟨rfl, rfl⟩
              · intro gg w' hw hk
                go_simp
                exact ⟨rfl, rfl⟩
              · intro gg w' hw hk
                go_simp
                exact ⟨rfl, rfl⟩
              · intro gg w' hw hk
                go_simp
                exact ⟨rfl, rfl⟩
            intro gg w8 k8 hgg
            clear hgg
            simp only [Hold.fill, Hold.Leave.value]
            go_simp
            go_wp2_with fail
            go_meet
            exact ⟨rfl, k8⟩
        case rest =>
          obtain ⟨rfl, k8⟩ := hcut
          have S4 := Lib.hid (⟨thruS hO S3.out.1 k8, thru S3.out.2.1 k8, S3.out.2.2.1.below k8, S3.out.2.2.2.below (by simp) k8⟩ : S wc F p fs ∧ Below w.heap.size w wc ∧ MineE encL 43 wc 0 (some ⟨g6, 0, none⟩) q c6 (sg.map lnOf) ∧ RowAt wc b0 (lnrow x))
          clear k8 HXX S3
          have hnext := HT.out.next
          rw [HD.out, ← HX.out.2.2.2.1] at hnext
          have HNX := Lib.hid hnext
          clear hnext
          go_upto_region 16 with fail
          go_wp2_with (first
            | (go_at_call 14; refine (HFl.out _ F p S4.out.1).mono ?_; rintro e w8 ⟨⟨A8, c8, rfl, hm8⟩, k8⟩; have S5 := Lib.hid (⟨thruS hO S4.out.1 k8, thru S4.out.2.1 k8, S4.out.2.2.1.below k8, S4.out.2.2.2.below (by simp) k8, floats_mineP hm8⟩ : S w8 F p fs ∧ Below w.heap.size w w8 ∧ MineE encL 43 w8 0 (some ⟨g6, 0, none⟩) q c6 (sg.map lnOf) ∧ RowAt w8 b0 (lnrow x) ∧ Floats w8 w8.heap.size A8 fs); clear hm8 k8))
          obtain ⟨nf, hnf⟩ : ∃ nf, fs.length = nf := ⟨_, rfl⟩
          have hnf2 : nf ≤ 20 := by have := HNN.out; omega
          rw [hnf]
          have HNF := Lib.hid hnf
          clear hnf
          go_loopw [147] (fun iv wr => ∃ i : Nat, i ≤ nf ∧ iv = .int .i64 (i : Int) ∧ Hid (S wr F p fs ∧ Below w.heap.size w wr ∧ MineE encL 43 wr 0 (some ⟨g6, 0, none⟩) q c6 (sg.map lnOf) ∧ RowAt wr b0 (lnrow x) ∧ Floats wr wr.heap.size A8 fs)) (fun iv _ => nf - (intOf iv).toNat)
          case atStart => exact ⟨0, Nat.zero_le _, rfl, S5⟩
          case round =>
            obtain ⟨i, hi, rfl, G⟩ := hrel
            by_cases hil : i < nf
            · have hii : (i : Int) < (nf : Int) := by omega
              have hi0 : ¬ (i : Int) < 0 := by omega
              have hwi : IntKind.i64.wrap ((i : Int) + 1) = (i : Int) + 1 := IntWalk.i64_in _ (by omega)
              obtain ⟨o, ho⟩ : ∃ o, fs[i]? = some o := ⟨_, List.getElem?_eq_getElem (by rw [HNF.out]; exact hil)⟩
              obtain ⟨ad, rfl, -, d0, d1, d2', d3, d4⟩ := G.out.2.2.2.2 i o ho
              have hmt := told_meet (m := s) (by rw [HT.out.ee.1]; exact HNL.out.h49) (o := o) (by rw [HT.out.ee.1]; exact List.mem_of_getElem? ho) HX.out.1.symm HX.out.2.2.1.symm
              have hxb : s.top + highL s.az = x.b := HX.out.2.2.2.1.symm
              rw [hxb, ← HX.out.2.1] at hmt
              have HMe := Lib.hid (fun w => meet_is o.l o.t o.r o.b x.l x.t x.r x.b false hmt w)
              clear ho hmt hxb
              go_upto_region 19 with fail
              generalize hV : World.alloc wr _ = V
              obtain ⟨b1, hb1⟩ : ∃ b1, wr.heap.size = b1 := ⟨_, rfl⟩
              have k2 : Below wr.heap.size wr V := by rw [← hV]; exact ba1 _ _
              have z2 : RowAt V b1 [.int .i64 o.s, .int .i64 o.l, .int .i64 o.t, .int .i64 o.r, .int .i64 o.b] := by rw [← hV, ← hb1]; exact RowAt.new wr _ _
              rw [hb1]
              have S6 := Lib.hid (⟨thruS hO G.out.1 k2, thru G.out.2.1 k2, G.out.2.2.1.below k2, G.out.2.2.2.1.below (by simp) k2, G.out.2.2.2.2.thru k2⟩ : S V F p fs ∧ Below w.heap.size w V ∧ MineE encL 43 V 0 (some ⟨g6, 0, none⟩) q c6 (sg.map lnOf) ∧ RowAt V b0 (lnrow x) ∧ Floats V V.heap.size (some ad) fs)
              have p1 : V.cell? ⟨b1, 1, none⟩ = some (.int .i64 o.l) := z2.at' 1
              have p2 : V.cell? ⟨b1, 2, none⟩ = some (.int .i64 o.t) := z2.at' 2
              have p3 : V.cell? ⟨b1, 3, none⟩ = some (.int .i64 o.r) := z2.at' 3
              have p4 : V.cell? ⟨b1, 4, none⟩ = some (.int .i64 o.b) := z2.at' 4
              obtain ⟨c0, c1, c2, c3, c4, c5⟩ := lat_of S6.out.2.2.2.1
              clear hV hb1 k2 z2 d0 d1 d2' d3 d4
              go_wp2_with (first
                | (go_at_call 18; refine (HMe.out _).mono ?_; rintro e w9 ⟨rfl, k9⟩; have S7 := Lib.hid (⟨thruS hO S6.out.1 k9, thru S6.out.2.1 k9, S6.out.2.2.1.below k9, S6.out.2.2.2.1.below (by simp) k9, S6.out.2.2.2.2.thru k9⟩ : S w9 F p fs ∧ Below w.heap.size w w9 ∧ MineE encL 43 w9 0 (some ⟨g6, 0, none⟩) q c6 (sg.map lnOf) ∧ RowAt w9 b0 (lnrow x) ∧ Floats w9 w9.heap.size (some ad) fs); clear k9))
              go_roundw
              case rel => exact ⟨i + 1, by omega, by go_num, S7⟩
              case measure => simp [intOf]; omega
            · obtain rfl : i = nf := by omega
              obtain ⟨c0, c1, c2, c3, c4, c5⟩ := lat_of G.out.2.2.2.1
              go_wp2_with fail
              go_roundw
              case rel => exact ⟨k + 1, by omega, by go_num, d2, x.b, rfl, rfl, Lib.hid ⟨G.out.1, G.out.2.1, G.out.2.2.1, HNX.out⟩⟩
              case measure => simp [intOf]; omega
    · obtain rfl : k = q := by omega
      have hd := atLine_end H.out.2.2.2 HQ.out.1.symm
      have hge : (d : Int) = (nz : Int) := by have := HZ.out.1; omega
      clear hd
      go_wp2_with fail
      go_ret
      exact ⟨rfl, H.out.2.1⟩

theorem apart_any (hO : SpaceOk S) (A : Option Addr) (n c : Nat) (fs : List Fl) (f t y : Int) (AZ : Option Addr) (nz cz : Nat) (zs : List Sz) (w : World) (hn : n = fs.length) (hx : Floats w w.heap.size A fs) (hnz : nz = zs.length) (hmz : nz ≤ 9223372036854775807) (hcz : nz ≤ cz) (hxz : Sizes w w.heap.size AZ zs) :
    Calls Try.prog 4 #[.slice A n c, .int .i64 f, .int .i64 t, .int .i64 y, .slice AZ nz cz] w fun e w' => e = .returned (.bool true) ∧ Below w.heap.size w w' := by
  by_cases hh : (nearL fs f t y && decide ((n : Int) ≤ 20)) = true
  · simp only [Bool.and_eq_true, decide_eq_true_eq] at hh
    by_cases h40 : nz ≤ 40
    · by_cases hr : zs.all rightS = true
      · exact apart_yes hO A n c fs f t y AZ nz cz zs w hn hx hnz hmz hcz hxz (by omega) hh.1 h40 hr
      · exact apart_wrong hO A n c fs f t y AZ nz cz zs w hn hx hnz hmz hcz hxz (by omega) hh.1 h40 (by simpa using hr)
    · exact apart_many hO A n c fs f t y AZ nz cz zs w hn hx hnz hmz hcz hxz (by omega) hh.1 (by omega)
  · exact apart_few hO A n c fs f t y AZ nz cz zs w hn hx hnz hmz hcz hxz (by simpa using hh)

end

end Go.Proofs.Ytmgokpdeolnidaa.Line
