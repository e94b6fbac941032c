/- The law: the lines of any atoms, among whichever floats, are as the document says. -/
import Derived.Test.YtmgokpdeolnidaaPart34
import Derived.Test.YtmgokpdeolnidaaPart35
import Derived.Test.YtmgokpdeolnidaaPart36
import Derived.Test.YtmgokpdeolnidaaPart33
namespace Go.Proofs.Ytmgokpdeolnidaa.Line
open Go.RowKit Go.Sort Go.Proofs.Ytmgokpdeolnidaa.Rect Go.Proofs.Ytmgokpdeolnidaa.More Go.Proofs.Ytmgokpdeolnidaa.Shelf Go.Proofs.Ytmgokpdeolnidaa.Space Go.Proofs.Ytmgokpdeolnidaa.Place
set_option linter.unusedVariables false
set_option linter.unusedSimpArgs false

theorem ref_start {A : Option Addr} {n c : Nat} {fs : List Fl} {f t y : Int} {w : World} (h : NearL fs f t y) (hn : n = fs.length) (hm : n ≤ 1000) (hx : Floats w w.heap.size A fs) : RefIn 0 w A n c none 0 0 ⟨fs, f, t, y, 0, []⟩ := by
  obtain ⟨h49, f1, f2, t1, t2, y1, y2, ft⟩ := h
  have f1' : -4503599627370496 ≤ f := by omega
  have f2' : f ≤ 4503599627370496 := by omega
  have t1' : -4503599627370496 ≤ t := by omega
  have t2' : t ≤ 4503599627370496 := by omega
  have y1' : -281474976710656 ≤ y := by omega
  have y2' : y ≤ 562949953421312 + ((0 : Nat) : Int) * 2147483648 := by omega
  exact ⟨⟨hn, by omega, hx, rfl, by omega, sizes_none _ _, fun x hx => (by cases hx), (show (-1125899906842624 : Int) ≤ 0 ∧ (0 : Int) ≤ 1125899906842624 by omega)⟩, fun _ => rfl, ⟨h49, f1', f2', t1', t2', y1', y2', fun x hx => (by cases hx), Nat.zero_le _, fun e => absurd rfl e, fun e => absurd rfl e⟩, (show (-281474976710656 : Int) ≤ 0 ∧ (0 : Int) ≤ 562949953421312 + ((0 : Nat) : Int) * 2147483648 by omega), fun ad e => (by cases e)⟩

theorem eqArrR (a b c d : Int) (w : World) : (Op.equalIn 9999 45 (.agg #[.int .i64 a, .int .i64 b, .int .i64 c, .int .i64 d]) (.agg #[.int .i64 a, .int .i64 b, .int .i64 c, .int .i64 d])).run Try.prog w = .ok true w := by
  have u3 := Try.underlying3
  have a3 := Try.isAgg3
  have z3 := Try.sizeOf3
  rw [show (9999 : Nat) = 9998 + 1 from rfl, Op.equalIn]
  simp only [Sem.run_bind, run_underlying Try.underlying45, Result.andThen_ok]
  simp only [Std.Legacy.Range.forIn_eq_forIn_range', Std.Legacy.Range.size, Nat.sub_zero, Nat.add_sub_cancel, Nat.div_one, List.range'_succ, List.range'_zero, List.forIn_cons, List.forIn_nil]
  go_simp

section
variable {S : World → (Nat → Prop) → Addr → List Fl → Prop}

set_option maxRecDepth 100000 in
set_option maxHeartbeats 1000000 in
theorem breaks_few (hO : SpaceOk S) (A : Option Addr) (n c : Nat) (fs : List Fl) (f t y : Int) (AZ : Option Addr) (nz cz : Nat) (zs : List Sz) (w : World) (hn : n = fs.length) (hx : Floats w w.heap.size A fs) (hnz : nz = zs.length) (hmz : nz ≤ 9223372036854775807) (hxz : Sizes w w.heap.size AZ zs) (hv : (nearL fs f t y && decide ((n : Int) ≤ 20)) = false) :
    Calls Try.prog 3 #[.slice A n c, .int .i64 f, .int .i64 t, .int .i64 y, .slice AZ nz cz] w fun e w' => e = .returned (.bool true) ∧ Below w.heap.size w w' := by
  have HBe := Lib.hid (llbegin_no A n c fs f t y w hn hx hv)
  clear hnz hmz hxz hn hx hv
  go_enter Try.func3, Try.ntmps3
  go_upto_region 3 with (first
    | (go_at_call 8; refine HBe.out.mono ?_; rintro e w2 ⟨rfl, k2⟩; have K2 := Lib.hid k2; clear k2)
    | (go_at_call 9; refine (lspeaks hO _).mono ?_; rintro e w3 ⟨rfl, k3⟩; have K3 := Lib.hid (thru K2.out k3); clear k3))
  go_wp2_with (first
    | (go_at_call 9; refine (lspeaks hO _).mono ?_; rintro e w9 ⟨rfl, k9⟩; have K9 := Lib.hid (thru K3.out k9); clear k9))
  go_ret
  exact ⟨rfl, K9.out⟩

set_option maxRecDepth 100000 in
set_option maxHeartbeats 1000000 in
theorem breaks_many (hO : SpaceOk S) (A : Option Addr) (n c : Nat) (fs : List Fl) (f t y : Int) (AZ : Option Addr) (nz cz : Nat) (zs : List Sz) (w : World) (hn : n = fs.length) (hx : Floats w w.heap.size A fs) (hnz : nz = zs.length) (hmz : nz ≤ 9223372036854775807) (hxz : Sizes w w.heap.size AZ zs) (h20 : n ≤ 20) (hs : nearL fs f t y = true) (h40 : 40 < nz) :
    Calls Try.prog 3 #[.slice A n c, .int .i64 f, .int .i64 t, .int .i64 y, .slice AZ nz cz] w fun e w' => e = .returned (.bool true) ∧ Below w.heap.size w w' := by
  have HBe := Lib.hid (llbegin_any hO A n c fs f t y w hn h20 hx hs)
  have h41 : (40 : Int) < (nz : Int) := by omega
  clear hnz hmz hxz hn hx hs
  go_enter Try.func3, Try.ntmps3
  go_upto_region 3 with (first
    | (go_at_call 8; refine HBe.out.mono ?_; rintro e w2 ⟨⟨p, F, rfl, hL, hF⟩, k2⟩; have S2 := Lib.hid (⟨hL, k2, hF⟩ : S w2 F p fs ∧ Below w.heap.size w w2 ∧ ∀ k, F k → w.heap.size ≤ k); clear hL hF k2)
    | (go_at_call 9; refine (lspeaks hO _).mono ?_; rintro e w3 ⟨rfl, k3⟩; have S3 := Lib.hid (⟨thruS hO S2.out.1 k3, thru S2.out.2.1 k3, S2.out.2.2⟩ : S w3 F p fs ∧ Below w.heap.size w w3 ∧ ∀ k, F k → w.heap.size ≤ k); clear k3))
  go_wp2_with (first
    | (go_at_call 9; refine (lspeaks hO _).mono ?_; rintro e w9 ⟨rfl, k9⟩; have K9 := Lib.hid (thru S3.out.2.1 k9); clear k9))
  go_ret
  exact ⟨rfl, K9.out⟩

set_option maxRecDepth 100000 in
set_option maxHeartbeats 1000000 in
theorem breaks_wrong (hO : SpaceOk S) (A : Option Addr) (n c : Nat) (fs : List Fl) (f t y : Int) (AZ : Option Addr) (nz cz : Nat) (zs : List Sz) (w : World) (hn : n = fs.length) (hx : Floats w w.heap.size A fs) (hnz : nz = zs.length) (hmz : nz ≤ 9223372036854775807) (hxz : Sizes w w.heap.size AZ zs) (h20 : n ≤ 20) (hs : nearL fs f t y = true) (h40 : nz ≤ 40) (hr : zs.all rightS = false) :
    Calls Try.prog 3 #[.slice A n c, .int .i64 f, .int .i64 t, .int .i64 y, .slice AZ nz cz] w fun e w' => e = .returned (.bool true) ∧ Below w.heap.size w w' := by
  have HBe := Lib.hid (llbegin_any hO A n c fs f t y w hn h20 hx hs)
  have HRi := Lib.hid (fun w1 (k : Below w.heap.size w w1) => lright_is AZ nz cz zs false w1 hnz hmz (hxz.thru k) hr)
  have h41 : ¬ (40 : Int) < (nz : Int) := by omega
  clear hnz hmz hxz hn hx hs hr
  go_enter Try.func3, Try.ntmps3
  go_upto_region 3 with (first
    | (go_at_call 8; refine HBe.out.mono ?_; rintro e w2 ⟨⟨p, F, rfl, hL, hF⟩, k2⟩; have S2 := Lib.hid (⟨hL, k2, hF⟩ : S w2 F p fs ∧ Below w.heap.size w w2 ∧ ∀ k, F k → w.heap.size ≤ k); clear hL hF k2)
    | (go_at_call 9; refine (lspeaks hO _).mono ?_; rintro e w3 ⟨rfl, k3⟩; have S3 := Lib.hid (⟨thruS hO S2.out.1 k3, thru S2.out.2.1 k3, S2.out.2.2⟩ : S w3 F p fs ∧ Below w.heap.size w w3 ∧ ∀ k, F k → w.heap.size ≤ k); clear k3)
    | (go_at_call 10; refine (HRi.out _ S3.out.2.1).mono ?_; rintro e w4 ⟨rfl, k4⟩; have S4 := Lib.hid (⟨thruS hO S3.out.1 k4, thru S3.out.2.1 k4, S3.out.2.2⟩ : S w4 F p fs ∧ Below w.heap.size w w4 ∧ ∀ k, F k → w.heap.size ≤ k); clear k4))
  go_wp2_with (first
    | (go_at_call 9; refine (lspeaks hO _).mono ?_; rintro e w9 ⟨rfl, k9⟩; have K9 := Lib.hid (thru S4.out.2.1 k9); clear k9))
  go_ret
  exact ⟨rfl, K9.out⟩

set_option maxRecDepth 100000 in
set_option maxHeartbeats 1000000 in
theorem breaks_yes (hO : SpaceOk S) (A : Option Addr) (n c : Nat) (fs : List Fl) (f t y : Int) (AZ : Option Addr) (nz cz : Nat) (zs : List Sz) (w : World) (hn : n = fs.length) (hx : Floats w w.heap.size A fs) (hnz : nz = zs.length) (hmz : nz ≤ 9223372036854775807) (hxz : Sizes w w.heap.size AZ zs) (h20 : n ≤ 20) (hs : nearL fs f t y = true) (h40 : nz ≤ 40) (hr : zs.all rightS = true) :
    Calls Try.prog 3 #[.slice A n c, .int .i64 f, .int .i64 t, .int .i64 y, .slice AZ nz cz] w fun e w' => e = .returned (.bool true) ∧ Below w.heap.size w w' := by
  have HBe := Lib.hid (llbegin_any hO A n c fs f t y w hn h20 hx hs)
  have HRi := Lib.hid (fun w1 (k : Below w.heap.size w w1) => lright_is AZ nz cz zs true w1 hnz hmz (hxz.thru k) hr)
  have h41 : ¬ (40 : Int) < (nz : Int) := by omega
  have hRS := rightS_all hr
  have HNL := Lib.hid (nearL_so hs)
  have HOf := Lib.hid (fun w1 (k : Below w.heap.size w w1) => lof_any AZ nz cz zs w1 hnz (by omega) (hxz.thru k))
  have HNL2 := HNL.out
  have HAl := Lib.hid (fun w1 F p A9 c9 (h : S w1 F p fs) (hz : Sizes w1 w1.heap.size A9 zs) => lall_any hO w1 F p fs f t y A9 nz c9 zs h HNL2.h49 ⟨by have := HNL2.f1; omega, by have := HNL2.f2; omega⟩ ⟨by have := HNL2.t1; omega, by have := HNL2.t2; omega⟩ ⟨by have := HNL2.y1; omega, by have := HNL2.y2; omega⟩ hnz (by omega) hz hRS)
  have HRA := Lib.hid (fun w1 (k : Below w.heap.size w w1) => refall_any A n c ⟨fs, f, t, y, 0, []⟩ AZ nz cz zs w1 (ref_start HNL2 hn (by omega) (hx.thru k)) hnz (by omega) (hxz.thru k) hRS)
  have HFl := Lib.hid (fun w1 F p (h : S w1 F p fs) => hO.floats w1 F p fs h (near49_near HNL2.h49))
  have hnl : (n : Int) = (fs.length : Int) := by omega
  obtain ⟨sg, hsg⟩ : ∃ sg, segsL ⟨fs, f, t, y, 0, []⟩ zs = sg := ⟨_, rfl⟩
  rw [hsg] at HAl HRA
  obtain ⟨q, hq⟩ : ∃ q, sg.length = q := ⟨_, rfl⟩
  rw [hq] at HAl HRA
  have hql : q ≤ 40 := by
    have h1 := told_len (segs_told0 (m := ⟨fs, f, t, y, 0, []⟩) ⟨HNL2.h49, by show -4503599627370496 ≤ f; have := HNL2.f1; omega, by show t ≤ 4503599627370496; have := HNL2.t2; omega, by show -4503599627370496 ≤ y; have := HNL2.y1; omega⟩ rfl zs hRS)
    rw [hsg, hq] at h1
    omega
  have HQ := Lib.hid (⟨hq, hql⟩ : sg.length = q ∧ q ≤ 40)
  clear hnz hmz hxz hn hx hs hr hsg hq hRS HNL2
  go_enter Try.func3, Try.ntmps3
  go_upto_region 4 with (first
    | (go_at_call 8; refine HBe.out.mono ?_; rintro e w2 ⟨⟨p, F, rfl, hL, hF⟩, k2⟩; have S2 := Lib.hid (⟨hL, k2, hF⟩ : S w2 F p fs ∧ Below w.heap.size w w2 ∧ ∀ k, F k → w.heap.size ≤ k); clear hL hF k2)
    | (go_at_call 9; refine (lspeaks hO _).mono ?_; rintro e w3 ⟨rfl, k3⟩; have S3 := Lib.hid (⟨thruS hO S2.out.1 k3, thru S2.out.2.1 k3, S2.out.2.2⟩ : S w3 F p fs ∧ Below w.heap.size w w3 ∧ ∀ k, F k → w.heap.size ≤ k); clear k3)
    | (go_at_call 10; refine (HRi.out _ S3.out.2.1).mono ?_; rintro e w4 ⟨rfl, k4⟩; have S4 := Lib.hid (⟨thruS hO S3.out.1 k4, thru S3.out.2.1 k4, S3.out.2.2⟩ : S w4 F p fs ∧ Below w.heap.size w w4 ∧ ∀ k, F k → w.heap.size ≤ k); clear k4))
  go_upto_region 6 with (first
    | (go_at_call 12; refine (HOf.out _ S4.out.2.1).mono ?_; rintro e w5 ⟨⟨A5, c5, rfl, hz5⟩, k5⟩; have S5 := Lib.hid (⟨thruS hO S4.out.1 k5, thru S4.out.2.1 k5, hz5⟩ : S w5 F p fs ∧ Below w.heap.size w w5 ∧ Sizes w5 w5.heap.size A5 zs); clear hz5 k5)
    | (go_at_call 11; refine (HAl.out _ F p A5 c5 S5.out.1 S5.out.2.2).mono ?_; rintro e w6 ⟨⟨A6, c6, rfl, hm6⟩, k6⟩; have S6 := Lib.hid (⟨thruS hO S5.out.1 k6, thru S5.out.2.1 k6, MineE.mono hm6 (Nat.zero_le _)⟩ : S w6 F p fs ∧ Below w.heap.size w w6 ∧ MineE encL 43 w6 0 A6 q c6 (sg.map lnOf)); clear hm6 k6)
    | (go_at_call 13; refine (HRA.out _ S6.out.2.1).mono ?_; rintro e w7 ⟨⟨A7, c7, rfl, hm7⟩, k7⟩; have S7 := Lib.hid (⟨thruS hO S6.out.1 k7, thru S6.out.2.1 k7, S6.out.2.2.below k7, MineE.mono hm7 (Nat.zero_le _)⟩ : S w7 F p fs ∧ Below w.heap.size w w7 ∧ MineE encL 43 w7 0 A6 q c6 (sg.map lnOf) ∧ MineE encL 47 w7 0 A7 q c7 (sg.map lnOf)); clear hm7 k7))
  go_wp2_with (first
    | (go_at_call 14; refine (HFl.out _ F p S7.out.1).mono ?_; rintro e w8 ⟨⟨A8, c8, rfl, -⟩, k8⟩; have S8 := Lib.hid (⟨thru S7.out.2.1 k8, S7.out.2.2.1.below k8, S7.out.2.2.2.below k8⟩ : Below w.heap.size w w8 ∧ MineE encL 43 w8 0 A6 q c6 (sg.map lnOf) ∧ MineE encL 47 w8 0 A7 q c7 (sg.map lnOf)); clear k8))
  go_loopw [68] (fun i wr => ∃ k : Nat, k ≤ q ∧ i = .int .i64 (k : Int) ∧ Hid (Below w.heap.size w wr ∧ MineE encL 43 wr 0 A6 q c6 (sg.map lnOf) ∧ MineE encL 47 wr 0 A7 q c7 (sg.map lnOf))) (fun i _ => q - (intOf i).toNat)
  case atStart => exact ⟨0, Nat.zero_le _, rfl, S8⟩
  case round =>
    obtain ⟨k, hk, rfl, H⟩ := hrel
    by_cases hlt : k < q
    · have hki : (k : Int) < (q : Int) := by omega
      have hk0 : ¬ (k : Int) < 0 := by omega
      have hwk : IntKind.i64.wrap ((k : Int) + 1) = (k : Int) + 1 := by have := HQ.out.2; exact IntWalk.i64_in _ (by omega)
      obtain ⟨x, hx⟩ : ∃ x, (sg.map lnOf)[k]? = some x := ⟨_, List.getElem?_eq_getElem (by rw [List.length_map, HQ.out.1]; exact hlt)⟩
      obtain ⟨g6, hg6, -, -, -, -⟩ := MineE.form H.out.2.1 (by omega)
      obtain ⟨g7, hg7, -, -, -, -⟩ := MineE.form H.out.2.2 (by omega)
      subst hg6 hg7
      have HXA := Lib.hid (fun wq (j : Below wr.heap.size wr wq) => (⟨MineE.at (H.out.2.1.below j) k x hx 0 (by decide), MineE.at (H.out.2.1.below j) k x hx 1 (by decide), MineE.at (H.out.2.1.below j) k x hx 2 (by decide), MineE.at (H.out.2.1.below j) k x hx 3 (by decide), MineE.at (H.out.2.1.below j) k x hx 4 (by decide), MineE.at (H.out.2.1.below j) k x hx 5 (by decide)⟩ : LinesAt wq g6 k x))
      have HXB := Lib.hid (fun wq (j : Below wr.heap.size wr wq) => (⟨MineE.at (H.out.2.2.below j) k x hx 0 (by decide), MineE.at (H.out.2.2.below j) k x hx 1 (by decide), MineE.at (H.out.2.2.below j) k x hx 2 (by decide), MineE.at (H.out.2.2.below j) k x hx 3 (by decide), MineE.at (H.out.2.2.below j) k x hx 4 (by decide), MineE.at (H.out.2.2.below j) k x hx 5 (by decide)⟩ : LinesAt wq g7 k x))
      obtain ⟨a0, a1, a2, a3, a4, a5⟩ := HXA.out wr (Below.refl _ _)
      clear hx
      go_upto_region 11 with fail
      generalize hW : World.alloc wr _ = W
      obtain ⟨b0, hb0⟩ : ∃ b0, wr.heap.size = b0 := ⟨_, rfl⟩
      have k1 : Below wr.heap.size wr W := by rw [← hW]; exact ba1 _ _
      have z1 : RowAt W b0 (lnrow x) := by rw [← hW, ← hb0]; exact RowAt.new wr _ _
      rw [hb0]
      have S1 := Lib.hid (⟨k1, z1⟩ : Below wr.heap.size wr W ∧ RowAt W b0 (lnrow x))
      clear hW hb0 k1 z1 a0 a1 a2 a3 a4 a5
      have HXX := Lib.hid (fun w' (j : Below W.heap.size W w') => lat_of (S1.out.2.below (by simp) j))
      have HYY := Lib.hid (fun w' (j : Below W.heap.size W w') => HXB.out w' (thru S1.out.1 j))
      refine HoldAll.wp_region_hold_all [.val (x.v), .val (x.v), .val (.slice (some ⟨g7, 0, none⟩) q c7), .val (.int .i64 (k : Int)), .val (.pointer (some ⟨g7, k * 6, none⟩)), .val (x.v), .val (.bool false)] (by kernel_rfl) (by kernel_rfl) (by kernel_rfl) ?_ ?_
      · simp only [Hold.fill, Hold.Leave.value]
        refine ⟨?_, ?_, ?_, ?_, ?_, ?_, ?_, trivial⟩
        · intro gg w' hw hk
          have q0 := (HXX.out w' hw).1
          have q1 := (HXX.out w' hw).2.1
          have q2 := (HXX.out w' hw).2.2.1
          have q3 := (HXX.out w' hw).2.2.2.1
          have q4 := (HXX.out w' hw).2.2.2.2.1
          have q5 := (HXX.out w' hw).2.2.2.2.2
          go_simp
          exact ⟨rfl, rfl⟩
        · intro gg w' hw hk
          go_simp
          exact Hold.stays_call (lto_any x w')
        · intro gg w' hw hk
          go_simp
          exact ⟨rfl, rfl⟩
        · intro gg w' hw hk
          go_simp
          exact ⟨rfl, rfl⟩
        · intro gg w' hw hk
          go_simp
          exact ⟨rfl, rfl⟩
        · intro gg w' hw hk
          have q0 := (HYY.out w' hw).1
          have q1 := (HYY.out w' hw).2.1
          have q2 := (HYY.out w' hw).2.2.1
          have q3 := (HYY.out w' hw).2.2.2.1
          have q4 := (HYY.out w' hw).2.2.2.2.1
          have q5 := (HYY.out w' hw).2.2.2.2.2
          go_simp
          exact ⟨rfl, rfl⟩
        · intro gg w' hw hk
          have q := eqArrR x.l x.t x.r x.b w'
          go_simp
          exact ⟨rfl, rfl⟩
      intro gg w2 k2 hgg
      clear hgg
      simp only [Hold.fill, Hold.Leave.value]
      have K2 := Lib.hid (thru S1.out.1 k2)
      clear k2
      go_simp
      go_wp2_with fail
      go_roundw
      case rel => exact ⟨k + 1, by omega, by go_num, Lib.hid ⟨thru H.out.1 K2.out, H.out.2.1.below K2.out, H.out.2.2.below K2.out⟩⟩
      case measure => simp [intOf]; omega
    · obtain rfl : k = q := by omega
      go_wp2_with fail
      go_ret
      exact ⟨rfl, H.out.1⟩

theorem breaks_any (hO : SpaceOk S) (A : Option Addr) (n c : Nat) (fs : List Fl) (f t y : Int) (AZ : Option Addr) (nz cz : Nat) (zs : List Sz) (w : World) (hn : n = fs.length) (hx : Floats w w.heap.size A fs) (hnz : nz = zs.length) (hmz : nz ≤ 9223372036854775807) (hxz : Sizes w w.heap.size AZ zs) :
    Calls Try.prog 3 #[.slice A n c, .int .i64 f, .int .i64 t, .int .i64 y, .slice AZ nz cz] w fun e w' => e = .returned (.bool true) ∧ Below w.heap.size w w' := by
  by_cases hh : (nearL fs f t y && decide ((n : Int) ≤ 20)) = true
  · simp only [Bool.and_eq_true, decide_eq_true_eq] at hh
    by_cases h40 : nz ≤ 40
    · by_cases hr : zs.all rightS = true
      · exact breaks_yes hO A n c fs f t y AZ nz cz zs w hn hx hnz hmz hxz (by omega) hh.1 h40 hr
      · exact breaks_wrong hO A n c fs f t y AZ nz cz zs w hn hx hnz hmz hxz (by omega) hh.1 h40 (by simpa using hr)
    · exact breaks_many hO A n c fs f t y AZ nz cz zs w hn hx hnz hmz hxz (by omega) hh.1 (by omega)
  · exact breaks_few hO A n c fs f t y AZ nz cz zs w hn hx hnz hmz hxz (by simpa using hh)

end

end Go.Proofs.Ytmgokpdeolnidaa.Line
