/- The contracts of the document's answers about a space. -/
import Derived.Test.YtpfcefflcmeobaaSpacePMath
import Derived.Test.YtpfcefflcmeobaaShelfSRefs3
namespace Go.Proofs.Ytpfcefflcmeobaa.Space
open Go.RowKit Go.Sort Go.Proofs.Ytpfcefflcmeobaa.Rect Go.Proofs.Ytpfcefflcmeobaa.Shelf

set_option maxRecDepth 100000 in
set_option maxHeartbeats 600000 in
theorem cleared_is (c s : Int) (v : Bool) (hv : clrB c s = v) (w : World) :
    Calls Try.prog 34 #[.int .i64 c, .int .i64 s] w fun e w' => e = .returned (.bool v) ∧ Below w.heap.size w w' := by
  unfold clrB at hv
  by_cases h3 : (c == 3) = true
  · have e : v = true := by rw [← hv, h3]; rfl
    subst e
    clear hv
    go_enter Try.func34, Try.ntmps34
    go_wp2_with fail
    go_ret
    exact ⟨rfl, Below.refl _ _⟩
  · have h3' : (c == 3) = false := by simpa using h3
    by_cases h0 : (c != 0) = true
    · have e : v = (c == s) := by rw [← hv, h3', h0]; rfl
      obtain ⟨x, hx⟩ : ∃ x : Bool, (c == s) = x := ⟨_, rfl⟩
      rw [hx] at e
      subst e
      clear hv h3
      go_enter Try.func34, Try.ntmps34
      go_wp2_with fail
      go_ret
      exact ⟨rfl, Below.refl _ _⟩
    · have h0' : (c != 0) = false := by simpa using h0
      have e : v = false := by rw [← hv, h3', h0']; rfl
      subst e
      clear hv h3 h0
      go_enter Try.func34, Try.ntmps34
      go_wp2_with fail
      go_ret
      exact ⟨rfl, Below.refl _ _⟩

theorem reflast_any (A : Option Addr) (n c : Nat) (fs : List Fl) (v : Bool) (w : World) (hn : n = fs.length) (hlen : n ≤ 1000000) (hx : Floats w w.heap.size A fs) (hv : decide (0 < fs.length) = v) :
    Calls Try.prog 13 #[.slice A n c] w fun e w' => e = .returned (.tuple #[.int .i64 (lastD fs), .bool v]) ∧ Below w.heap.size w w' := by
  have HX := Lib.hid hx
  have HN := Lib.hid hn
  have HV := Lib.hid (show decide (0 < n) = v by rw [← hv, hn])
  clear hx hn hv
  go_enter Try.func13, Try.ntmps13
  go_wp2_with fail
  go_loopw [4, 5] (fun s i wr => ∃ k : Nat, k ≤ n ∧ i = .int .i64 (k : Int) ∧ s = .int .i64 (lastD (fs.take k)) ∧ Hid (Below w.heap.size w wr)) (fun _ i _ => n - (intOf i).toNat)
  case atStart => exact ⟨0, Nat.zero_le _, rfl, rfl, Lib.hid (Below.refl _ _)⟩
  case round =>
    obtain ⟨k, hk, rfl, rfl, H⟩ := hrel
    obtain ⟨lv, hlv⟩ : ∃ lv, lastD (fs.take k) = lv := ⟨_, rfl⟩
    rw [hlv]
    have HLV := Lib.hid hlv
    clear hlv
    by_cases hlt : k < n
    · have hki : (k : Int) < (n : Int) := by omega
      have hk0 : ¬ (k : Int) < 0 := by omega
      obtain ⟨f, hf⟩ : ∃ f, fs[k]? = some f := ⟨_, List.getElem?_eq_getElem (by rw [← HN.out]; exact hlt)⟩
      obtain ⟨ad, rfl, hab, d0, d1, d2, d3, d4⟩ := (HX.out.thru H.out) k f hf
      have HK := Lib.hid hf
      clear hf
      by_cases hz : k = 0
      · have hze : ((k : Int) == 0) = true := by simp [hz]
        have HL := Lib.hid (show lastD (fs.take (k + 1)) = f.t by rw [lastD_take HK.out, if_pos hz])
        clear HLV HK hz
        go_wp2_with fail
        go_roundw
        case rel => exact ⟨k + 1, by omega, by go_num, by rw [HL.out], H⟩
        case measure => simp [intOf]; omega
      · have hze : ((k : Int) == 0) = false := by rw [beq_eq_false_iff_ne]; omega
        by_cases hm : lv < f.t
        · have HL := Lib.hid (show lastD (fs.take (k + 1)) = f.t by rw [lastD_take HK.out, if_neg hz, HLV.out]; omega)
          clear HLV HK hz
          go_wp2_with fail
          go_roundw
          case rel => exact ⟨k + 1, by omega, by go_num, by rw [HL.out], H⟩
          case measure => simp [intOf]; omega
        · have HL := Lib.hid (show lastD (fs.take (k + 1)) = lv by rw [lastD_take HK.out, if_neg hz, HLV.out]; omega)
          clear HLV HK hz
          go_wp2_with fail
          go_roundw
          case rel => exact ⟨k + 1, by omega, by go_num, by rw [HL.out], H⟩
          case measure => simp [intOf]; omega
    · obtain rfl : k = n := by omega
      rw [List.take_of_length_le (by rw [← HN.out]; omega)] at HLV
      have hvv := HV.out
      go_wp2_with fail
      exact bodyPost_ret (v := .tuple #[.int .i64 lv, .bool v]) (by simp [results, Try.results13, go_sem]) rfl ⟨by rw [HLV.out], H.out⟩

theorem refbottom_any (A : Option Addr) (n c : Nat) (fs : List Fl) (cl : Int) (w : World) (hn : n = fs.length) (hlen : n ≤ 1000000) (hx : Floats w w.heap.size A fs) :
    Calls Try.prog 15 #[.slice A n c, .int .i64 cl] w fun e w' => e = .returned (.tuple #[.int .i64 (botS fs cl).1, .bool (botS fs cl).2]) ∧ Below w.heap.size w w' := by
  have HX := Lib.hid hx
  have HN := Lib.hid hn
  clear hx hn
  go_enter Try.func15, Try.ntmps15
  go_wp2_with fail
  go_loopw [6, 7, 8] (fun s t i wr => ∃ k : Nat, k ≤ n ∧ i = .int .i64 (k : Int) ∧ s = .int .i64 (botS (fs.take k) cl).1 ∧ t = .bool (botS (fs.take k) cl).2 ∧ Hid (Below w.heap.size w wr)) (fun _ _ i _ => n - (intOf i).toNat)
  case atStart => exact ⟨0, Nat.zero_le _, rfl, rfl, rfl, Lib.hid (Below.refl _ _)⟩
  case round =>
    obtain ⟨k, hk, rfl, rfl, rfl, H⟩ := hrel
    obtain ⟨lv, ov, hlv⟩ : ∃ lv ov, botS (fs.take k) cl = (lv, ov) := ⟨_, _, rfl⟩
    rw [hlv]
    have HLV := Lib.hid hlv
    clear hlv
    by_cases hlt : k < n
    · have hki : (k : Int) < (n : Int) := by omega
      have hk0 : ¬ (k : Int) < 0 := by omega
      obtain ⟨f, hf⟩ : ∃ f, fs[k]? = some f := ⟨_, List.getElem?_eq_getElem (by rw [← HN.out]; exact hlt)⟩
      obtain ⟨ad, rfl, hab, d0, d1, d2, d3, d4⟩ := (HX.out.thru H.out) k f hf
      have hbl : (ad.add (k * 5)).block < wr.heap.size := by rw [block_of_add]; exact hab
      have HA0 := Lib.hid (fun w' (j : Below wr.heap.size wr w') => (AtF.below (f := f) ⟨d0, d1, d2, d3, d4⟩ hbl j))
      have HN1 := Lib.hid (botS_take hf cl)
      obtain ⟨cv, hcv⟩ : ∃ cv, clrB cl f.s = cv := ⟨_, rfl⟩
      have HCV := Lib.hid hcv
      have HCT := Lib.hid (fun w => cleared_is cl f.s cv hcv w)
      clear hf hcv
      cases cv
      · have HL := Lib.hid (show botS (fs.take (k + 1)) cl = (lv, ov) by rw [HN1.out, HLV.out]; unfold botStep; rw [HCV.out]; rfl)
        clear HLV HN1
        go_wp2_with (first
          | (go_at_call 34; refine (HCT.out _).mono ?_; rintro e w1 ⟨rfl, k1⟩; obtain ⟨d0, d1, d2, d3, d4⟩ := HA0.out _ k1; have K1 := Lib.hid k1; clear k1))
        go_roundw
        case rel => exact ⟨k + 1, by omega, by go_num, by rw [HL.out], by rw [HL.out], Lib.hid (thru H.out K1.out)⟩
        case measure => simp [intOf]; omega
      · cases ov
        · have HL := Lib.hid (show botS (fs.take (k + 1)) cl = (f.b, true) by rw [HN1.out, HLV.out]; unfold botStep; rw [HCV.out]; rfl)
          clear HLV HN1
          go_wp2_with (first
            | (go_at_call 34; refine (HCT.out _).mono ?_; rintro e w1 ⟨rfl, k1⟩; obtain ⟨d0, d1, d2, d3, d4⟩ := HA0.out _ k1; have K1 := Lib.hid k1; clear k1))
          go_roundw
          case rel => exact ⟨k + 1, by omega, by go_num, by rw [HL.out], by rw [HL.out], Lib.hid (thru H.out K1.out)⟩
          case measure => simp [intOf]; omega
        · by_cases hm : lv < f.b
          · have HL := Lib.hid (show botS (fs.take (k + 1)) cl = (f.b, true) by rw [HN1.out, HLV.out]; unfold botStep; rw [HCV.out, if_pos (by simp [hm])])
            clear HLV HN1
            go_wp2_with (first
              | (go_at_call 34; refine (HCT.out _).mono ?_; rintro e w1 ⟨rfl, k1⟩; obtain ⟨d0, d1, d2, d3, d4⟩ := HA0.out _ k1; have K1 := Lib.hid k1; clear k1))
            go_roundw
            case rel => exact ⟨k + 1, by omega, by go_num, by rw [HL.out], by rw [HL.out], Lib.hid (thru H.out K1.out)⟩
            case measure => simp [intOf]; omega
          · have HL := Lib.hid (show botS (fs.take (k + 1)) cl = (lv, true) by rw [HN1.out, HLV.out]; unfold botStep; rw [HCV.out, if_neg (by simp [hm])])
            clear HLV HN1
            go_wp2_with (first
              | (go_at_call 34; refine (HCT.out _).mono ?_; rintro e w1 ⟨rfl, k1⟩; obtain ⟨d0, d1, d2, d3, d4⟩ := HA0.out _ k1; have K1 := Lib.hid k1; clear k1))
            go_roundw
            case rel => exact ⟨k + 1, by omega, by go_num, by rw [HL.out], by rw [HL.out], Lib.hid (thru H.out K1.out)⟩
            case measure => simp [intOf]; omega
    · obtain rfl : k = n := by omega
      rw [List.take_of_length_le (by rw [← HN.out]; omega)] at HLV
      go_wp2_with fail
      exact bodyPost_ret (v := .tuple #[.int .i64 lv, .bool ov]) (by simp [results, Try.results15, go_sem]) rfl ⟨by rw [HLV.out], H.out⟩

theorem refclear_any (A : Option Addr) (n c : Nat) (fs : List Fl) (cl y : Int) (w : World) (hn : n = fs.length) (hlen : n ≤ 1000000) (hx : Floats w w.heap.size A fs) :
    Calls Try.prog 17 #[.slice A n c, .int .i64 cl, .int .i64 y] w fun e w' => e = .returned (.int .i64 (clearS fs cl y)) ∧ Below w.heap.size w w' := by
  have HB := Lib.hid (refbottom_any A n c fs cl w hn hlen hx)
  obtain ⟨lv, ov, hlv⟩ : ∃ lv ov, botS fs cl = (lv, ov) := ⟨_, _, rfl⟩
  rw [hlv] at HB
  obtain ⟨z, hz⟩ : ∃ z, clearS fs cl y = z := ⟨_, rfl⟩
  rw [hz]
  unfold clearS at hz
  rw [hlv] at hz
  clear hlv hn hx
  cases ov
  · have hzz : z = y := by rw [← hz]; rfl
    subst hzz
    clear hz
    go_enter Try.func17, Try.ntmps17
    go_wp2_with (first
      | (go_at_call 15; refine HB.out.mono ?_; rintro e w1 ⟨rfl, k1⟩; have K1 := Lib.hid k1; clear k1))
    go_ret
    exact ⟨rfl, K1.out⟩
  · by_cases hm : y < lv
    · have hzz : z = lv := by rw [← hz, if_pos (by simp [hm])]
      subst hzz
      clear hz
      go_enter Try.func17, Try.ntmps17
      go_wp2_with (first
        | (go_at_call 15; refine HB.out.mono ?_; rintro e w1 ⟨rfl, k1⟩; have K1 := Lib.hid k1; clear k1))
      go_ret
      exact ⟨rfl, K1.out⟩
    · have hzz : z = y := by rw [← hz, if_neg (by simp [hm])]
      subst hzz
      clear hz
      go_enter Try.func17, Try.ntmps17
      go_wp2_with (first
        | (go_at_call 15; refine HB.out.mono ?_; rintro e w1 ⟨rfl, k1⟩; have K1 := Lib.hid k1; clear k1))
      go_ret
      exact ⟨rfl, K1.out⟩

theorem high_is (h : Int) (w : World) :
    Calls Try.prog 21 #[.int .i64 h] w fun e w' => e = .returned (.int .i64 (highZ h)) ∧ Below w.heap.size w w' := by
  obtain ⟨z, hz⟩ : ∃ z, highZ h = z := ⟨_, rfl⟩
  rw [hz]
  unfold highZ at hz
  by_cases h1 : h < 1
  · rw [if_pos h1] at hz
    subst hz
    go_enter Try.func21, Try.ntmps21
    go_wp2_with fail
    go_ret
    exact ⟨rfl, Below.refl _ _⟩
  · rw [if_neg h1] at hz
    subst hz
    go_enter Try.func21, Try.ntmps21
    go_wp2_with fail
    go_ret
    exact ⟨rfl, Below.refl _ _⟩

theorem refrows_any (A : Option Addr) (n c : Nat) (fs : List Fl) (y h : Int) (w : World) (hn : n = fs.length) (hlen : n ≤ 1000000) (hx : Floats w w.heap.size A fs) (hy : -2305843009213693952 ≤ y ∧ y ≤ 2305843009213693952) (hh : h ≤ 2305843009213693952) :
    Calls Try.prog 22 #[.slice A n c, .int .i64 y, .int .i64 h] w fun e w' => e = .returned (.tuple #[.int .i64 (bandL fs y (y + highZ h)), .int .i64 (bandR fs y (y + highZ h))]) ∧ Below w.heap.size w w' := by
  have hz1 := highZ_pos h
  have hz2 : highZ h ≤ 2305843009213693952 := by unfold highZ; split <;> omega
  have HH := Lib.hid (fun w => high_is h w)
  obtain ⟨z, hz⟩ : ∃ z, highZ h = z := ⟨_, rfl⟩
  rw [hz] at hz1 hz2 HH ⊢
  have HB := Lib.hid (fun w1 (k : Below w.heap.size w w1) => refband_any A n c fs y (y + z) w1 hn hlen (hx.thru k))
  have hw : IntKind.i64.wrap (y + z) = y + z := IntWalk.i64_in _ (by omega)
  clear hz hn hx
  go_enter Try.func22, Try.ntmps22
  go_wp2_with (first
    | (go_at_call 21; refine (HH.out _).mono ?_; rintro e w1 ⟨rfl, k1⟩; have K1 := Lib.hid k1; clear k1)
    | (go_at_call 36; refine (HB.out _ K1.out).mono ?_; rintro e w2 ⟨rfl, k2⟩; have K2 := Lib.hid (thru K1.out k2); clear k2))
  exact bodyPost_ret (v := .tuple #[.int .i64 (bandL fs y (y + z)), .int .i64 (bandR fs y (y + z))]) (by simp [results, Try.results22, go_sem]) rfl ⟨rfl, K2.out⟩

theorem reffree_any (A : Option Addr) (n c : Nat) (fs : List Fl) (a z y h : Int) (w : World) (hn : n = fs.length) (hlen : n ≤ 1000000) (hx : Floats w w.heap.size A fs) (hy : -2305843009213693952 ≤ y ∧ y ≤ 2305843009213693952) (hh : h ≤ 2305843009213693952) :
    Calls Try.prog 23 #[.slice A n c, .int .i64 a, .int .i64 z, .int .i64 y, .int .i64 h] w fun e w' => e = .returned (.tuple #[.int .i64 (max a (bandL fs y (y + highZ h))), .int .i64 (min z (bandR fs y (y + highZ h)))]) ∧ Below w.heap.size w w' := by
  have HB := Lib.hid (refrows_any A n c fs y h w hn hlen hx hy hh)
  obtain ⟨p, hp⟩ : ∃ p, bandL fs y (y + highZ h) = p := ⟨_, rfl⟩
  obtain ⟨q, hq⟩ : ∃ q, bandR fs y (y + highZ h) = q := ⟨_, rfl⟩
  rw [hp, hq] at HB ⊢
  obtain ⟨p', hp'⟩ : ∃ p', max a p = p' := ⟨_, rfl⟩
  obtain ⟨q', hq'⟩ : ∃ q', min z q = q' := ⟨_, rfl⟩
  rw [hp', hq']
  clear hp hq hn hx hy hh
  by_cases c1 : p < a
  · have e1 : p' = a := by omega
    subst e1
    by_cases c2 : z < q
    · have e2 : q' = z := by omega
      subst e2
      clear hp' hq'
      go_enter Try.func23, Try.ntmps23
      go_wp2_with (first
        | (go_at_call 22; refine HB.out.mono ?_; rintro e w1 ⟨rfl, k1⟩; have K1 := Lib.hid k1; clear k1))
      exact bodyPost_ret (v := .tuple #[.int .i64 p', .int .i64 q']) (by simp [results, Try.results23, go_sem]) rfl ⟨rfl, K1.out⟩
    · have e2 : q' = q := by omega
      subst e2
      clear hp' hq'
      go_enter Try.func23, Try.ntmps23
      go_wp2_with (first
        | (go_at_call 22; refine HB.out.mono ?_; rintro e w1 ⟨rfl, k1⟩; have K1 := Lib.hid k1; clear k1))
      exact bodyPost_ret (v := .tuple #[.int .i64 p', .int .i64 q']) (by simp [results, Try.results23, go_sem]) rfl ⟨rfl, K1.out⟩
  · have e1 : p' = p := by omega
    subst e1
    by_cases c2 : z < q
    · have e2 : q' = z := by omega
      subst e2
      clear hp' hq'
      go_enter Try.func23, Try.ntmps23
      go_wp2_with (first
        | (go_at_call 22; refine HB.out.mono ?_; rintro e w1 ⟨rfl, k1⟩; have K1 := Lib.hid k1; clear k1))
      exact bodyPost_ret (v := .tuple #[.int .i64 p', .int .i64 q']) (by simp [results, Try.results23, go_sem]) rfl ⟨rfl, K1.out⟩
    · have e2 : q' = q := by omega
      subst e2
      clear hp' hq'
      go_enter Try.func23, Try.ntmps23
      go_wp2_with (first
        | (go_at_call 22; refine HB.out.mono ?_; rintro e w1 ⟨rfl, k1⟩; have K1 := Lib.hid k1; clear k1))
      exact bodyPost_ret (v := .tuple #[.int .i64 p', .int .i64 q']) (by simp [results, Try.results23, go_sem]) rfl ⟨rfl, K1.out⟩

end Go.Proofs.Ytpfcefflcmeobaa.Space
