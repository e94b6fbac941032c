/- The law: without floats each line begins where the one ahead ends; a line has as many atoms as fit, or one. -/
import Derived.Test.YtmgokpdeolnidaaPart36
namespace Go.Proofs.Ytmgokpdeolnidaa.Line
open Go.RowKit Go.Sort Go.Proofs.Ytmgokpdeolnidaa.Rect Go.Proofs.Ytmgokpdeolnidaa.More Go.Proofs.Ytmgokpdeolnidaa.Shelf Go.Proofs.Ytmgokpdeolnidaa.Space Go.Proofs.Ytmgokpdeolnidaa.Place
set_option linter.unusedVariables false
set_option linter.unusedSimpArgs false

/-- A part of sizes. -/
def backZ (A : Option Addr) (c k : Nat) : Option Addr := if c = k then A else Option.map (fun x => x.add (k * 2)) A
theorem Sizes.part {w : World} {B : Nat} {A : Option Addr} {n c : Nat} {zs : List Sz} (h : Sizes w B A zs) (hn : n = zs.length) (hc : n ≤ c) (d l : Nat) (hd : d + l ≤ n) : Sizes w B (backZ A c d) ((zs.drop d).take l) := fun i z hi => by
  rw [List.getElem?_take] at hi
  split at hi
  · rename_i hil
    rw [List.getElem?_drop] at hi
    obtain ⟨ad, e, hb, ha⟩ := h (d + i) z hi
    have hdl := (List.getElem?_eq_some_iff.1 hi).1
    have hne : ¬ c = d := by omega
    unfold backZ
    rw [if_neg hne, e]
    refine ⟨ad.add (d * 2), rfl, by rw [block_of_add]; exact hb, ?_⟩
    rw [Addr.add_add, ← Nat.add_mul]
    exact ha
  · cases hi

section
variable {S : World → (Nat → Prop) → Addr → List Fl → Prop}

set_option maxRecDepth 100000 in
set_option maxHeartbeats 1000000 in
theorem alone_few (hO : SpaceOk S) (f t y : Int) (AZ : Option Addr) (nz cz : Nat) (zs : List Sz) (w : World) (hnz : nz = zs.length) (hmz : nz ≤ 9223372036854775807) (hcz : nz ≤ cz) (hxz : Sizes w w.heap.size AZ zs) (hv : nearL [] f t y = false) :
    Calls Try.prog 6 #[.int .i64 f, .int .i64 t, .int .i64 y, .slice AZ nz cz] w fun e w' => e = .returned (.bool true) ∧ Below w.heap.size w w' := by
  have HBe := Lib.hid (llbegin_no none 0 0 [] f t y w rfl (fun k f hk => by simp at hk) (by rw [hv]; rfl))
  clear hnz hmz hxz hv
  go_enter Try.func6, Try.ntmps6
  go_upto_region 3 with (first
    | (go_at_call 8; refine HBe.out.mono ?_; rintro e w2 ⟨rfl, k2⟩; have K2 := Lib.hid k2; clear k2)
    | (go_at_call 9; refine (lspeaks hO _).mono ?_; rintro e w3 ⟨rfl, k3⟩; have K3 := Lib.hid (thru K2.out k3); clear k3))
  go_wp2_with (first
    | (go_at_call 9; refine (lspeaks hO _).mono ?_; rintro e w9 ⟨rfl, k9⟩; have K9 := Lib.hid (thru K3.out k9); clear k9))
  go_ret
  exact ⟨rfl, K9.out⟩

set_option maxRecDepth 100000 in
set_option maxHeartbeats 1000000 in
theorem alone_many (hO : SpaceOk S) (f t y : Int) (AZ : Option Addr) (nz cz : Nat) (zs : List Sz) (w : World) (hnz : nz = zs.length) (hmz : nz ≤ 9223372036854775807) (hcz : nz ≤ cz) (hxz : Sizes w w.heap.size AZ zs) (hs : nearL [] f t y = true) (h40 : 40 < nz) :
    Calls Try.prog 6 #[.int .i64 f, .int .i64 t, .int .i64 y, .slice AZ nz cz] w fun e w' => e = .returned (.bool true) ∧ Below w.heap.size w w' := by
  have HBe := Lib.hid (llbegin_any hO none 0 0 [] f t y w rfl (by omega) (fun k f hk => by simp at hk) hs)
  have h41 : (40 : Int) < (nz : Int) := by omega
  clear hnz hmz hxz hs
  go_enter Try.func6, Try.ntmps6
  go_upto_region 3 with (first
    | (go_at_call 8; refine HBe.out.mono ?_; rintro e w2 ⟨⟨p, F, rfl, hL, hF⟩, k2⟩; have S2 := Lib.hid (⟨hL, k2, hF⟩ : S w2 F p [] ∧ Below w.heap.size w w2 ∧ ∀ k, F k → w.heap.size ≤ k); clear hL hF k2)
    | (go_at_call 9; refine (lspeaks hO _).mono ?_; rintro e w3 ⟨rfl, k3⟩; have S3 := Lib.hid (⟨thruS hO S2.out.1 k3, thru S2.out.2.1 k3, S2.out.2.2⟩ : S w3 F p [] ∧ Below w.heap.size w w3 ∧ ∀ k, F k → w.heap.size ≤ k); clear k3))
  go_wp2_with (first
    | (go_at_call 9; refine (lspeaks hO _).mono ?_; rintro e w9 ⟨rfl, k9⟩; have K9 := Lib.hid (thru S3.out.2.1 k9); clear k9))
  go_ret
  exact ⟨rfl, K9.out⟩

set_option maxRecDepth 100000 in
set_option maxHeartbeats 1000000 in
theorem alone_wrong (hO : SpaceOk S) (f t y : Int) (AZ : Option Addr) (nz cz : Nat) (zs : List Sz) (w : World) (hnz : nz = zs.length) (hmz : nz ≤ 9223372036854775807) (hcz : nz ≤ cz) (hxz : Sizes w w.heap.size AZ zs) (hs : nearL [] f t y = true) (h40 : nz ≤ 40) (hr : zs.all rightS = false) :
    Calls Try.prog 6 #[.int .i64 f, .int .i64 t, .int .i64 y, .slice AZ nz cz] w fun e w' => e = .returned (.bool true) ∧ Below w.heap.size w w' := by
  have HBe := Lib.hid (llbegin_any hO none 0 0 [] f t y w rfl (by omega) (fun k f hk => by simp at hk) hs)
  have HRi := Lib.hid (fun w1 (k : Below w.heap.size w w1) => lright_is AZ nz cz zs false w1 hnz hmz (hxz.thru k) hr)
  have h41 : ¬ (40 : Int) < (nz : Int) := by omega
  clear hnz hmz hxz hs hr
  go_enter Try.func6, Try.ntmps6
  go_upto_region 3 with (first
    | (go_at_call 8; refine HBe.out.mono ?_; rintro e w2 ⟨⟨p, F, rfl, hL, hF⟩, k2⟩; have S2 := Lib.hid (⟨hL, k2, hF⟩ : S w2 F p [] ∧ Below w.heap.size w w2 ∧ ∀ k, F k → w.heap.size ≤ k); clear hL hF k2)
    | (go_at_call 9; refine (lspeaks hO _).mono ?_; rintro e w3 ⟨rfl, k3⟩; have S3 := Lib.hid (⟨thruS hO S2.out.1 k3, thru S2.out.2.1 k3, S2.out.2.2⟩ : S w3 F p [] ∧ Below w.heap.size w w3 ∧ ∀ k, F k → w.heap.size ≤ k); clear k3)
    | (go_at_call 10; refine (HRi.out _ S3.out.2.1).mono ?_; rintro e w4 ⟨rfl, k4⟩; have S4 := Lib.hid (⟨thruS hO S3.out.1 k4, thru S3.out.2.1 k4, S3.out.2.2⟩ : S w4 F p [] ∧ Below w.heap.size w w4 ∧ ∀ k, F k → w.heap.size ≤ k); clear k4))
  go_wp2_with (first
    | (go_at_call 9; refine (lspeaks hO _).mono ?_; rintro e w9 ⟨rfl, k9⟩; have K9 := Lib.hid (thru S4.out.2.1 k9); clear k9))
  go_ret
  exact ⟨rfl, K9.out⟩

set_option maxRecDepth 100000 in
set_option maxHeartbeats 1000000 in
theorem alone_yes (hO : SpaceOk S) (f t y : Int) (AZ : Option Addr) (nz cz : Nat) (zs : List Sz) (w : World) (hnz : nz = zs.length) (hmz : nz ≤ 9223372036854775807) (hcz : nz ≤ cz) (hxz : Sizes w w.heap.size AZ zs) (hs : nearL [] f t y = true) (h40 : nz ≤ 40) (hr : zs.all rightS = true) :
    Calls Try.prog 6 #[.int .i64 f, .int .i64 t, .int .i64 y, .slice AZ nz cz] w fun e w' => e = .returned (.bool true) ∧ Below w.heap.size w w' := by
  have HBe := Lib.hid (llbegin_any hO none 0 0 [] f t y w rfl (by omega) (fun k f hk => by simp at hk) hs)
  have HRi := Lib.hid (fun w1 (k : Below w.heap.size w w1) => lright_is AZ nz cz zs true w1 hnz hmz (hxz.thru k) hr)
  have h41 : ¬ (40 : Int) < (nz : Int) := by omega
  have hRS := rightS_all hr
  have HNL := Lib.hid (nearL_so hs)
  have HOf := Lib.hid (fun w1 (k : Below w.heap.size w w1) => lof_any AZ nz cz zs w1 hnz (by omega) (hxz.thru k))
  have HNL2 := HNL.out
  have HAl := Lib.hid (fun w1 F p A9 c9 (h : S w1 F p []) (hz : Sizes w1 w1.heap.size A9 zs) => lall_any hO w1 F p [] f t y A9 nz c9 zs h HNL2.h49 ⟨by have := HNL2.f1; omega, by have := HNL2.f2; omega⟩ ⟨by have := HNL2.t1; omega, by have := HNL2.t2; omega⟩ ⟨by have := HNL2.y1; omega, by have := HNL2.y2; omega⟩ hnz (by omega) hz hRS)
  have hat := atLine_start HNL2 hRS
  have hsl := atLine_len HNL2 hRS
  obtain ⟨sg, hsg⟩ : ∃ sg, segsL ⟨[], f, t, y, 0, []⟩ zs = sg := ⟨_, rfl⟩
  rw [hsg] at HAl hat hsl
  obtain ⟨q, hq⟩ : ∃ q, sg.length = q := ⟨_, rfl⟩
  rw [hq] at HAl hsl
  have HQ := Lib.hid (⟨hq, by omega⟩ : sg.length = q ∧ q ≤ 40)
  have HAT := Lib.hid hat
  have HRS := Lib.hid hRS
  have HZ := Lib.hid (⟨hnz, by omega⟩ : nz = zs.length ∧ nz ≤ 40)
  have HXZ := Lib.hid hxz
  have HCZ := Lib.hid hcz
  clear hnz hmz hxz hs hr hsg hq hRS HNL2 hat hsl hcz
  go_enter Try.func6, Try.ntmps6
  go_upto_region 4 with (first
    | (go_at_call 8; refine HBe.out.mono ?_; rintro e w2 ⟨⟨p, F, rfl, hL, hF⟩, k2⟩; have S2 := Lib.hid (⟨hL, k2, hF⟩ : S w2 F p [] ∧ Below w.heap.size w w2 ∧ ∀ k, F k → w.heap.size ≤ k); clear hL hF k2)
    | (go_at_call 9; refine (lspeaks hO _).mono ?_; rintro e w3 ⟨rfl, k3⟩; have S3 := Lib.hid (⟨thruS hO S2.out.1 k3, thru S2.out.2.1 k3, S2.out.2.2⟩ : S w3 F p [] ∧ Below w.heap.size w w3 ∧ ∀ k, F k → w.heap.size ≤ k); clear k3)
    | (go_at_call 10; refine (HRi.out _ S3.out.2.1).mono ?_; rintro e w4 ⟨rfl, k4⟩; have S4 := Lib.hid (⟨thruS hO S3.out.1 k4, thru S3.out.2.1 k4, S3.out.2.2⟩ : S w4 F p [] ∧ Below w.heap.size w w4 ∧ ∀ k, F k → w.heap.size ≤ k); clear k4))
  go_upto_region 6 with (first
    | (go_at_call 12; refine (HOf.out _ S4.out.2.1).mono ?_; rintro e w5 ⟨⟨A5, c5, rfl, hz5⟩, k5⟩; have S5 := Lib.hid (⟨thruS hO S4.out.1 k5, thru S4.out.2.1 k5, hz5⟩ : S w5 F p [] ∧ Below w.heap.size w w5 ∧ Sizes w5 w5.heap.size A5 zs); clear hz5 k5)
    | (go_at_call 11; refine (HAl.out _ F p A5 c5 S5.out.1 S5.out.2.2).mono ?_; rintro e w6 ⟨⟨A6, c6, rfl, hm6⟩, k6⟩; have S6 := Lib.hid (⟨thruS hO S5.out.1 k6, thru S5.out.2.1 k6, MineE.mono hm6 (Nat.zero_le _)⟩ : S w6 F p [] ∧ Below w.heap.size w w6 ∧ MineE encL 43 w6 0 A6 q c6 (sg.map lnOf)); clear hm6 k6))
  go_loopw [2, 10, 47] (fun v u i wr => ∃ k : Nat, k ≤ q ∧ i = .int .i64 (k : Int) ∧ ∃ (d : Nat) (yy : Int), v = .int .i64 yy ∧ u = .int .i64 (d : Int) ∧ Hid (S wr F p [] ∧ Below w.heap.size w wr ∧ MineE encL 43 wr 0 A6 q c6 (sg.map lnOf) ∧ AtLine [] f t zs sg k d yy)) (fun _ _ i _ => q - (intOf i).toNat)
  case atStart => exact ⟨0, Nat.zero_le _, rfl, 0, y, rfl, rfl, Lib.hid ⟨S6.out.1, S6.out.2.1, S6.out.2.2, HAT.out⟩⟩
  case round =>
    obtain ⟨k, hk, rfl, d, yy, rfl, rfl, H⟩ := hrel
    by_cases hlt : k < q
    · have hki : (k : Int) < (q : Int) := by omega
      have hk0 : ¬ (k : Int) < 0 := by omega
      have hwk : IntKind.i64.wrap ((k : Int) + 1) = (k : Int) + 1 := by have := HQ.out.2; exact IntWalk.i64_in _ (by omega)
      obtain ⟨s, hs⟩ : ∃ s, sg[k]? = some s := ⟨_, List.getElem?_eq_getElem (by rw [HQ.out.1]; exact hlt)⟩
      obtain ⟨g6, hg6, -, -, -, -⟩ := MineE.form H.out.2.2.1 (by omega)
      subst hg6
      have HT := Lib.hid (tells_of H.out.2.2.2 HNL.out HRS.out hs)
      have hx : (sg.map lnOf)[k]? = some (lnOf s) := by rw [List.getElem?_map, hs]; rfl
      obtain ⟨a0, a1, a2, a3, a4, a5⟩ := linesAt H.out.2.2.1 hx
      obtain ⟨x, hxe⟩ : ∃ x, lnOf s = x := ⟨_, rfl⟩
      rw [hxe] at a0 a1 a2 a3 a4 a5
      have HX := Lib.hid (by subst hxe; exact ⟨rfl, rfl, rfl, rfl, rfl, rfl⟩ : x.l = s.l ∧ x.t = s.top ∧ x.r = s.r ∧ x.b = s.b ∧ x.a = (s.az.length : Int) ∧ x.w = wideL s.az)
      obtain ⟨d2, hd2⟩ : ∃ d2, d + s.az.length = d2 := ⟨_, rfl⟩
      have HD := Lib.hid hd2
      clear hx hs hxe hd2
      go_upto_region 8 with fail
      generalize hW : World.alloc wr _ = W
      obtain ⟨b0, hb0⟩ : ∃ b0, wr.heap.size = b0 := ⟨_, rfl⟩
      have k1 : Below wr.heap.size wr W := by rw [← hW]; exact ba1 _ _
      have z1 : RowAt W b0 (lnrow x) := by rw [← hW, ← hb0]; exact RowAt.new wr _ _
      rw [hb0]
      have S1 := Lib.hid (⟨thruS hO H.out.1 k1, thru H.out.2.1 k1, H.out.2.2.1.below k1, z1⟩ : S W F p [] ∧ Below w.heap.size w W ∧ MineE encL 43 W 0 (some ⟨g6, 0, none⟩) q c6 (sg.map lnOf) ∧ RowAt W b0 (lnrow x))
      clear hW hb0 k1 z1 a0 a1 a2 a3 a4 a5
      have hwd : IntKind.i64.wrap ((d : Int) + x.a) = (d2 : Int) := by
        have := HX.out.2.2.2.2.1
        have := HD.out
        have := HT.out.le
        have := HZ.out
        rw [IntWalk.i64_in _ (by omega)]
        omega
      have hpos := HT.out.pos
      have htop : s.top = yy := by
        cases ha : s.az with
        | nil => exact absurd ha HT.out.ne
        | cons z l =>
          rw [HT.out.top z l ha]
          have := HNL.out.f1
          have := HNL.out.t2
          have := H.out.2.2.2.y1
          exact topL_none z (by omega) (by omega) (by omega)
      have hsl : s.l = f := by
        have := HNL.out.f1
        show freeL s.fs s.f s.top _ = f
        rw [HT.out.ee.1, HT.out.ee.2.1]
        exact freeL_none (by omega)
      have hsr : s.r = t := by
        have := HNL.out.t2
        show freeR s.fs s.t s.top _ = t
        rw [HT.out.ee.1, HT.out.ee.2.2]
        exact freeR_none (by omega)
      have n1 : x.t = yy := by rw [HX.out.2.1]; exact htop
      have n2 : x.l = f := by rw [HX.out.1]; exact hsl
      have n3 : x.r = t := by rw [HX.out.2.2.1]; exact hsr
      have n4 : ¬ x.a < 1 := by have := HX.out.2.2.2.2.1; omega
      have n5 : ¬ (d2 : Int) > (nz : Int) := by have := HT.out.le; have := HD.out; have := HZ.out; omega
      have HG := Lib.hid (⟨htop, hsl, hsr⟩ : s.top = yy ∧ s.l = f ∧ s.r = t)
      clear hpos htop hsl hsr
      obtain ⟨c0, c1, c2, c3, c4, c5⟩ := lat_of S1.out.2.2.2
      go_upto_region 11 with fail
      have hp1 : ¬ (d : Int) < 0 := by omega
      have hp2 : (d : Int) ≤ (d2 : Int) := by have := HD.out; omega
      have hp3 : (d2 : Int) ≤ (cz : Int) := by have := HT.out.le; have := HD.out; have := HZ.out; have := HCZ.out; omega
      have hp4 : ¬ cz = d := by have := HT.out.le; have := HD.out; have := HZ.out; have := HCZ.out; have := HT.out.pos; omega
      obtain ⟨PZ, hPZ⟩ : ∃ PZ, backZ AZ cz d = PZ := ⟨_, rfl⟩
      have HP := Lib.hid (by
        have h := HXZ.out.part HZ.out.1 HCZ.out d s.az.length (by have := HT.out.le; have := HZ.out; omega)
        rw [← HT.out.az, hPZ] at h
        exact h : Sizes w w.heap.size PZ s.az)
      go_cut [90, 91, 92] (fun a b i wx => a = .slice PZ s.az.length (cz - d) ∧ b = .int .i64 (s.az.length : Int) ∧ i = .int .i64 0 ∧ wx = W)
      case first =>
        have hlen : d2 - d = s.az.length := by have := HD.out; omega
        have hcast : ((d2 : Int) - (d : Int)).toNat = s.az.length := by have := HD.out; omega
        unfold backZ at hPZ
        rw [if_neg hp4] at hPZ
        go_wp2_with fail
        all_goals (go_meet; refine ⟨?_, ?_, rfl, rfl⟩)
        all_goals first
          | (simp [hPZ, hlen]; done)
          | (simp [← hPZ, hlen]; done)
          | (simp [hlen]; omega)
      case rest =>
        obtain ⟨rfl, rfl, rfl, rfl⟩ := hcut
        clear hp1 hp2 hp3 hp4 hPZ c0 c1 c2 c3 c4 c5 n4 n5
        have S2 := Lib.hid (⟨S1.out.1, S1.out.2.1, S1.out.2.2.1, S1.out.2.2.2⟩ : S wc F p [] ∧ Below w.heap.size w wc ∧ MineE encL 43 wc 0 (some ⟨g6, 0, none⟩) q c6 (sg.map lnOf) ∧ RowAt wc b0 (lnrow x))
        clear S1
        obtain ⟨m, hm⟩ : ∃ m, s.az.length = m := ⟨_, rfl⟩
        rw [hm]
        have HM := Lib.hid hm
        clear hm
        go_wp2_with fail
        go_loopw [13, 14, 92] (fun wv hv iv wr => ∃ i : Nat, i ≤ m ∧ iv = .int .i64 (i : Int) ∧ wv = .int .i64 (wideL (s.az.take i)) ∧ hv = .int .i64 (highL (s.az.take i)) ∧ Hid (S wr F p [] ∧ Below w.heap.size w wr ∧ MineE encL 43 wr 0 (some ⟨g6, 0, none⟩) q c6 (sg.map lnOf) ∧ RowAt wr b0 (lnrow x))) (fun _ _ iv _ => m - (intOf iv).toNat)
        case atStart => exact ⟨0, Nat.zero_le _, rfl, rfl, rfl, S2⟩
        case round =>
          obtain ⟨i, hi, rfl, rfl, rfl, G⟩ := hrel
          have hkb := HQ.out.2
          have hml : m ≤ 40 := by have := HT.out.le; have := HM.out; have := HZ.out; omega
          by_cases hil : i < m
          · have hii : (i : Int) < (m : Int) := by omega
            have hi0 : ¬ (i : Int) < 0 := by omega
            have hwi : IntKind.i64.wrap ((i : Int) + 1) = (i : Int) + 1 := IntWalk.i64_in _ (by omega)
            obtain ⟨z, hz⟩ : ∃ z, s.az[i]? = some z := ⟨_, List.getElem?_eq_getElem (by rw [HM.out]; exact hil)⟩
            obtain ⟨ad, rfl, -, d0, d1⟩ := (HP.out.thru G.out.2.1) i z hz
            have hra : ∀ v ∈ s.az, RightS v := fun v hv => HRS.out v (List.mem_of_mem_drop (i := d) (List.mem_of_mem_take (by rw [← HT.out.az]; exact hv)))
            have hrz := hra z (List.mem_of_getElem? hz)
            have hw1 := wideL_b (l := s.az.take i) fun v hv => hra v (List.mem_of_mem_take hv)
            have hw2 : (s.az.take i).length ≤ 40 := by rw [List.length_take]; omega
            have hpre := wide_prefix hra (i + 1)
            have hT := wideL_take hz
            have hTh := highL_take hz
            have hfit : 0 < i → wideL s.az ≤ t - f := fun hpos => by
              rcases HT.out.good.fit HT.out.ne with e | ⟨v, e, -⟩
              · rw [HG.out.2.1, HG.out.2.2] at e; exact e
              · have := HM.out; rw [e] at this; simp at this; omega
            have g7 := hrz.w1
            have g8 := hrz.w2
            have hadd : IntKind.i64.wrap (wideL (s.az.take i) + z.wd) = wideL (s.az.take (i + 1)) := by rw [hT]; exact IntWalk.i64_in _ (by omega)
            have hsub : IntKind.i64.wrap (t - f) = t - f := by
              have := HNL.out.f1
              have := HNL.out.f2
              have := HNL.out.t1
              have := HNL.out.t2
              exact IntWalk.i64_in _ (by omega)
            have hwide : 0 < i → ¬ wideL (s.az.take (i + 1)) > t - f := fun hpos => by have := hfit hpos; omega
            have HTH := Lib.hid hTh
            obtain ⟨wv, hwv⟩ : ∃ wv, wideL (s.az.take (i + 1)) = wv := ⟨_, rfl⟩
            rw [hwv] at hadd hwide
            have HWV := Lib.hid hwv
            clear hwv
            obtain ⟨hv, hhv⟩ : ∃ hv, highL (s.az.take (i + 1)) = hv := ⟨_, rfl⟩
            rw [hhv] at HTH
            have HHV := Lib.hid hhv
            clear hhv
            generalize wideL (s.az.take i) = wo at *
            generalize highL (s.az.take i) = ho at *
            clear hz hra hrz hw1 hw2 hpre hT hTh hfit g7 g8
            go_upto_region 14 with fail
            generalize hV : World.alloc wr _ = V
            obtain ⟨b1, hb1⟩ : ∃ b1, wr.heap.size = b1 := ⟨_, rfl⟩
            have k2 : Below wr.heap.size wr V := by rw [← hV]; exact ba1 _ _
            have z2 : RowAt V b1 (zcells z) := by rw [← hV, ← hb1]; exact RowAt.new wr _ _
            rw [hb1]
            have S3 := Lib.hid (⟨thruS hO G.out.1 k2, thru G.out.2.1 k2, G.out.2.2.1.below k2, G.out.2.2.2.below (by simp) k2⟩ : S V F p [] ∧ Below w.heap.size w V ∧ MineE encL 43 V 0 (some ⟨g6, 0, none⟩) q c6 (sg.map lnOf) ∧ RowAt V b0 (lnrow x))
            obtain ⟨p0, p1, -, -⟩ := two_of z2
            clear hV hb1 k2 z2 d0 d1
            have hho : max ho z.ht = hv := by rw [HTH.out]; split <;> omega
            have HHO := Lib.hid hho
            clear hho
            go_upto_region 15 with fail
            go_cut [14] (fun u wx => u = .int .i64 hv ∧ wx = V)
            case first =>
              rcases Int.lt_or_le ho z.ht with hq2 | hq2
              · obtain rfl : z.ht = hv := by have := HHO.out; omega
                go_wp2_with fail
                all_goals (go_meet; exact ⟨rfl, rfl⟩)
              · obtain rfl : ho = hv := by have := HHO.out; omega
                go_wp2_with fail
                all_goals (go_meet; exact ⟨rfl, rfl⟩)
            case rest =>
              obtain ⟨rfl, rfl⟩ := hcut
              clear p0 p1
              by_cases hi1 : 0 < i
              · have hip : (i : Int) > 0 := by omega
                have hw3 := hwide hi1
                clear hwide
                go_wp2_with fail
                go_roundw
                case rel => exact ⟨i + 1, by omega, by go_num, by rw [HWV.out], by rw [HHV.out], S3⟩
                case measure => simp [intOf]; omega
              · have hip : ¬ (i : Int) > 0 := by omega
                clear hwide
                go_wp2_with fail
                go_roundw
                case rel => exact ⟨i + 1, by omega, by go_num, by rw [HWV.out], by rw [HHV.out], S3⟩
                case measure => simp [intOf]; omega
          · obtain rfl : i = m := by omega
            have htk : s.az.take i = s.az := List.take_of_length_le (by rw [HM.out]; exact Nat.le_refl _)
            rw [htk]
            obtain ⟨c0, c1, c2, c3, c4, c5⟩ := lat_of G.out.2.2.2
            have hbt : x.b = yy + highL s.az := by rw [HX.out.2.2.2.1]; show s.top + highL s.az = _; rw [HG.out.1]
            have t2 := HT.out.t2
            have g1 := HT.out.h1
            have g2 := HT.out.h2
            have y1 := H.out.2.2.2.y1
            have htp := HG.out.1
            have hwb : IntKind.i64.wrap (yy + highL s.az) = x.b := by rw [hbt]; exact IntWalk.i64_in _ (by omega)
            have HNX := Lib.hid (by have h := HT.out.next; rw [HM.out, ← HX.out.2.2.2.1] at h; rw [HM.out] at HD; rw [HD.out] at h; exact h : AtLine [] f t zs sg (k + 1) d2 x.b)
            have hsub : IntKind.i64.wrap (t - f) = t - f := by
              have := HNL.out.f1
              have := HNL.out.f2
              have := HNL.out.t1
              have := HNL.out.t2
              exact IntWalk.i64_in _ (by omega)
            have hd20 : ¬ (d2 : Int) < 0 := by omega
            by_cases hend : d2 = nz
            · have hge : ¬ (d2 : Int) < (nz : Int) := by omega
              generalize wideL s.az = wv at *
              generalize highL s.az = hv at *
              clear htk hbt t2 g1 g2 y1 htp
              go_wp2_with fail
              go_roundw
              case rel => exact ⟨k + 1, by omega, by go_num, d2, x.b, rfl, by rw [hend], Lib.hid ⟨G.out.1, G.out.2.1, G.out.2.2.1, HNX.out⟩⟩
              case measure => simp [intOf]; omega
            · have hge : (d2 : Int) < (nz : Int) := by have := HNX.out.le; have := HZ.out; omega
              obtain ⟨z, hz⟩ : ∃ z, zs[d2]? = some z := ⟨_, List.getElem?_eq_getElem (by have := HZ.out; omega)⟩
              obtain ⟨ad, rfl, -, d0, d1⟩ := (HXZ.out.thru G.out.2.1) d2 z hz
              have hnf := told_next (HT.out.no z (by rw [HD.out]; exact hz))
              have q1 := HNL.out.f1
              have q2 := HNL.out.t2
              rw [HT.out.ee.1, HT.out.ee.2.1, HT.out.ee.2.2, freeL_none (by omega), freeR_none (by omega)] at hnf
              have hrz := HRS.out z (List.mem_of_getElem? hz)
              have g5 := HT.out.w1
              have g6' := HT.out.w2
              have g7 := hrz.w1
              have g8 := hrz.w2
              have hzl := HZ.out
              have hadd : IntKind.i64.wrap (wideL s.az + z.wd) = wideL s.az + z.wd := IntWalk.i64_in _ (by omega)
              generalize wideL s.az = wv at *
              generalize highL s.az = hv at *
              clear htk hbt t2 g1 g2 y1 htp hz hrz g5 g6' g7 g8 hzl q1 q2
              go_wp2_with fail
              go_roundw
              case rel => exact ⟨k + 1, by omega, by go_num, d2, x.b, rfl, rfl, Lib.hid ⟨G.out.1, G.out.2.1, G.out.2.2.1, HNX.out⟩⟩
              case measure => simp [intOf]; omega
    · obtain rfl : k = q := by omega
      have hd := atLine_end H.out.2.2.2 HQ.out.1.symm
      have hge : (d : Int) = (nz : Int) := by have := HZ.out.1; omega
      clear hd
      go_wp2_with fail
      go_ret
      exact ⟨rfl, H.out.2.1⟩

theorem alone_any (hO : SpaceOk S) (f t y : Int) (AZ : Option Addr) (nz cz : Nat) (zs : List Sz) (w : World) (hnz : nz = zs.length) (hmz : nz ≤ 9223372036854775807) (hcz : nz ≤ cz) (hxz : Sizes w w.heap.size AZ zs) :
    Calls Try.prog 6 #[.int .i64 f, .int .i64 t, .int .i64 y, .slice AZ nz cz] w fun e w' => e = .returned (.bool true) ∧ Below w.heap.size w w' := by
  by_cases hh : nearL [] f t y = true
  · by_cases h40 : nz ≤ 40
    · by_cases hr : zs.all rightS = true
      · exact alone_yes hO f t y AZ nz cz zs w hnz hmz hcz hxz hh h40 hr
      · exact alone_wrong hO f t y AZ nz cz zs w hnz hmz hcz hxz hh h40 (by simpa using hr)
    · exact alone_many hO f t y AZ nz cz zs w hnz hmz hcz hxz hh (by omega)
  · exact alone_few hO f t y AZ nz cz zs w hnz hmz hcz hxz (by simpa using hh)

end

end Go.Proofs.Ytmgokpdeolnidaa.Line
