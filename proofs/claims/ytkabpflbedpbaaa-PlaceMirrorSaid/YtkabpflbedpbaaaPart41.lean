/- The law: a mirror shows a float of the other side where it stands. -/
import Derived.Test.YtkabpflbedpbaaaPart35
import Derived.Test.YtkabpflbedpbaaaPart40
import Derived.Test.YtkabpflbedpbaaaPart13
namespace Go.Proofs.Ytkabpflbedpbaaa.Place
open Go.RowKit Go.Sort Go.Proofs.Ytkabpflbedpbaaa.Rect Go.Proofs.Ytkabpflbedpbaaa.More Go.Proofs.Ytkabpflbedpbaaa.Shelf Go.Proofs.Ytkabpflbedpbaaa.Space
set_option linter.unusedVariables false
set_option linter.unusedSimpArgs false

section
variable {S : World → (Nat → Prop) → Addr → List Fl → Prop}

set_option maxRecDepth 100000 in
set_option maxHeartbeats 1000000 in
theorem mirror_few (hO : SpaceOk S) (hP : PlaceOk S) (A : Option Addr) (n c : Nat) (fs : List Fl) (x : Wt) (w : World) (hn : n = fs.length) (hlen : n ≤ 9223372036854775807) (hx : Floats w w.heap.size A fs) (hv : (fs.all near49 && decide ((n : Int) ≤ 20)) = false) :
    Calls Try.prog 8 #[.slice A n c, x.v] w fun e w' => e = .returned (.bool true) ∧ Below w.heap.size w w' := by
  have HBe := Lib.hid (fun w1 (k : Below w.heap.size w w1) => lbegin_no A n c fs 20 w1 hn hlen (hx.thru k) hv)
  clear hn hx hv
  go_enter Try.func8, Try.ntmps8
  go_upto_region 1 with fail
  generalize hW1 : World.alloc w _ = W
  obtain ⟨b0, hb0⟩ : ∃ b0, w.heap.size = b0 := ⟨_, rfl⟩
  have KW := Lib.hid (show Below w.heap.size w W by rw [← hW1]; exact ba1 _ _)
  have AW := Lib.hid (show AtW W b0 x by rw [← hW1, ← hb0]; exact atW_boxed _ _ _)
  rw [hb0]
  clear hW1 hb0
  go_upto_region 3 with (first
    | (go_at_call 10; refine (HBe.out _ KW.out).mono ?_; rintro e w2 ⟨rfl, k2⟩; have K2 := Lib.hid (thru KW.out k2); clear k2)
    | (go_at_call 11; refine (qspeaks hO hP _).mono ?_; rintro e w3 ⟨rfl, k3⟩; have K3 := Lib.hid (thru K2.out k3); clear k3))
  go_wp2_with (first
    | (go_at_call 11; refine (qspeaks hO hP _).mono ?_; rintro e w9 ⟨rfl, k9⟩; have K9 := Lib.hid (thru K3.out k9); clear k9))
  go_ret
  exact ⟨rfl, K9.out⟩

set_option maxRecDepth 100000 in
set_option maxHeartbeats 1000000 in
theorem mirror_wrong (hO : SpaceOk S) (hP : PlaceOk S) (A : Option Addr) (n c : Nat) (fs : List Fl) (x : Wt) (w : World) (hn : n = fs.length) (hlen : n ≤ 20) (hx : Floats w w.heap.size A fs) (h49 : fs.all near49 = true) (hr : rightW x = false) :
    Calls Try.prog 8 #[.slice A n c, x.v] w fun e w' => e = .returned (.bool true) ∧ Below w.heap.size w w' := by
  have HBe := Lib.hid (fun w1 (k : Below w.heap.size w w1) => lbegin_any hO A n c fs 20 w1 hn (by omega) (by omega) (hx.thru k) h49)
  have HRi := Lib.hid (fun w => right_is x false hr w)
  clear hn hx h49
  go_enter Try.func8, Try.ntmps8
  go_upto_region 1 with fail
  generalize hW1 : World.alloc w _ = W
  obtain ⟨b0, hb0⟩ : ∃ b0, w.heap.size = b0 := ⟨_, rfl⟩
  have KW := Lib.hid (show Below w.heap.size w W by rw [← hW1]; exact ba1 _ _)
  have AW := Lib.hid (show AtW W b0 x by rw [← hW1, ← hb0]; exact atW_boxed _ _ _)
  rw [hb0]
  clear hW1 hb0
  go_upto_region 3 with (first
    | (go_at_call 10; refine (HBe.out _ KW.out).mono ?_; rintro e w2 ⟨⟨p, F, rfl, hL, hF⟩, k2⟩; have S2 := Lib.hid (⟨hL, thru KW.out k2, AW.out.below k2⟩ : S w2 F p fs ∧ Below w.heap.size w w2 ∧ AtW w2 b0 x); clear hL hF k2)
    | (go_at_call 11; refine (qspeaks hO hP _).mono ?_; rintro e w3 ⟨rfl, k3⟩; have S3 := Lib.hid (⟨thruS hO S2.out.1 k3, thru S2.out.2.1 k3, S2.out.2.2.below k3⟩ : S w3 F p fs ∧ Below w.heap.size w w3 ∧ AtW w3 b0 x); obtain ⟨c0, c1, c2, c3, c4, c5, c6⟩ := S3.out.2.2; clear k3)
    | (go_at_call 12; refine (HRi.out _).mono ?_; rintro e w4 ⟨rfl, k4⟩; have S4 := Lib.hid (⟨thruS hO S3.out.1 k4, thru S3.out.2.1 k4, S3.out.2.2.below k4⟩ : S w4 F p fs ∧ Below w.heap.size w w4 ∧ AtW w4 b0 x); clear k4))
  go_wp2_with (first
    | (go_at_call 11; refine (qspeaks hO hP _).mono ?_; rintro e w9 ⟨rfl, k9⟩; have K9 := Lib.hid (thru S4.out.2.1 k9); clear k9))
  go_ret
  exact ⟨rfl, K9.out⟩

set_option maxRecDepth 100000 in
set_option maxHeartbeats 1000000 in
theorem mirror_yes (hO : SpaceOk S) (hP : PlaceOk S) (A : Option Addr) (n c : Nat) (fs : List Fl) (x : Wt) (w : World) (hn : n = fs.length) (hlen : n ≤ 20) (hx : Floats w w.heap.size A fs) (h49 : fs.all near49 = true) (hr : RightW x) :
    Calls Try.prog 8 #[.slice A n c, x.v] w fun e w' => e = .returned (.bool true) ∧ Below w.heap.size w w' := by
  have HBe := Lib.hid (fun w1 (k : Below w.heap.size w w1) => lbegin_any hO A n c fs 20 w1 hn (by omega) (by omega) (hx.thru k) h49)
  have HRi := Lib.hid (fun w => right_is x true (rightW_iff.2 hr) w)
  have HFa := Lib.hid (fun w1 F p (h : S w1 F p fs) => hP.find w1 F p fs x h h49 hr)
  have HFb := Lib.hid (fun w1 F p (h : S w1 F p (fs.map mirF)) => hP.find w1 F p (fs.map mirF) (mirW x) h (mir_all h49) (mir_right hr))
  have HBm := Lib.hid (fun w1 A c (h : Floats w1 w1.heap.size A (fs.map mirF)) => lbegin_any hO A n c (fs.map mirF) 20 w1 (by rw [List.length_map]; exact hn) (by omega) (by omega) h (mir_all h49))
  have hq := find_49 h49 hr
  unfold placed at HFa HFb
  rw [mir_findX h49 hr, mir_findY h49 hr] at HFb
  have HX := Lib.hid hx
  have HN := Lib.hid (⟨hn, hlen, h49⟩ : n = fs.length ∧ n ≤ 20 ∧ fs.all near49 = true)
  obtain ⟨f1, f2, t1, t2, wd1, wd2, ht1, ht2, y1, y2, sd, cl, ft⟩ := hr
  generalize findX fs x = xa at *
  generalize findY fs x = ya at *
  obtain ⟨ra, hra⟩ : ∃ ra, xa + x.wd = ra := ⟨_, rfl⟩
  obtain ⟨ba, hba⟩ : ∃ ba, ya + x.ht = ba := ⟨_, rfl⟩
  obtain ⟨lb, hlb⟩ : ∃ lb, -(xa + x.wd) = lb := ⟨_, rfl⟩
  obtain ⟨rb, hrb⟩ : ∃ rb, -(xa + x.wd) + x.wd = rb := ⟨_, rfl⟩
  replace HFa : Hid (∀ w1 F p, S w1 F p fs → Calls Try.prog 18 #[.pointer (some p), x.v] w1 fun r w' => r = .returned (.agg #[.int .i64 xa, .int .i64 ya, .int .i64 ra, .int .i64 ba]) ∧ Below w1.heap.size w1 w') := Lib.hid (fun w1 F p h => by rw [← hra, ← hba]; exact HFa.out w1 F p h)
  replace HFb : Hid (∀ w1 F p, S w1 F p (fs.map mirF) → Calls Try.prog 18 #[.pointer (some p), Wt.v (mirW x)] w1 fun r w' => r = .returned (.agg #[.int .i64 lb, .int .i64 ya, .int .i64 rb, .int .i64 ba]) ∧ Below w1.heap.size w1 w') := Lib.hid (fun w1 F p h => by rw [← hlb, ← hrb, ← hba]; exact HFb.out w1 F p h)
  have hw1 : IntKind.i64.wrap (-rb) = xa := by rw [IntWalk.i64_in _ (by omega)]; omega
  have hw2 : IntKind.i64.wrap (-lb) = ra := by rw [IntWalk.i64_in _ (by omega)]; omega
  have HWB := Lib.hid (⟨hw1, hw2⟩ : IntKind.i64.wrap (-rb) = xa ∧ IntKind.i64.wrap (-lb) = ra)
  have hw3 : IntKind.i64.wrap (3 - x.s) = 3 - x.s := IntWalk.i64_in _ (by omega)
  have hw4 : IntKind.i64.wrap (-x.t) = -x.t := IntWalk.i64_in _ (by omega)
  have hw5 : IntKind.i64.wrap (-x.f) = -x.f := IntWalk.i64_in _ (by omega)
  have hw6 : IntKind.i64.wrap (3 - x.c) = 3 - x.c := IntWalk.i64_in _ (by omega)
  have HWX := Lib.hid (⟨hw3, hw4, hw5, hw6⟩ : IntKind.i64.wrap (3 - x.s) = 3 - x.s ∧ IntKind.i64.wrap (-x.t) = -x.t ∧ IntKind.i64.wrap (-x.f) = -x.f ∧ IntKind.i64.wrap (3 - x.c) = 3 - x.c)
  clear hn hx h49 hq f1 f2 t1 t2 wd1 wd2 ht1 ht2 y1 y2 sd cl ft hra hba hlb hrb hw1 hw2 hw3 hw4 hw5 hw6
  go_enter Try.func8, Try.ntmps8
  go_upto_region 1 with fail
  generalize hW1 : World.alloc w _ = W
  obtain ⟨b0, hb0⟩ : ∃ b0, w.heap.size = b0 := ⟨_, rfl⟩
  have KW := Lib.hid (show Below w.heap.size w W by rw [← hW1]; exact ba1 _ _)
  have AW := Lib.hid (show AtW W b0 x by rw [← hW1, ← hb0]; exact atW_boxed _ _ _)
  rw [hb0]
  clear hW1 hb0
  go_upto_region 4 with (first
    | (go_at_call 10; refine (HBe.out _ KW.out).mono ?_; rintro e w2 ⟨⟨p, F, rfl, hL, hF⟩, k2⟩; have S2 := Lib.hid (⟨hL, thru KW.out k2, AW.out.below k2⟩ : S w2 F p fs ∧ Below w.heap.size w w2 ∧ AtW w2 b0 x); clear hL hF k2)
    | (go_at_call 11; refine (qspeaks hO hP _).mono ?_; rintro e w3 ⟨rfl, k3⟩; have S3 := Lib.hid (⟨thruS hO S2.out.1 k3, thru S2.out.2.1 k3, S2.out.2.2.below k3⟩ : S w3 F p fs ∧ Below w.heap.size w w3 ∧ AtW w3 b0 x); obtain ⟨c0, c1, c2, c3, c4, c5, c6⟩ := S3.out.2.2; clear k3)
    | (go_at_call 12; refine (HRi.out _).mono ?_; rintro e w4 ⟨rfl, k4⟩; have S4 := Lib.hid (⟨thruS hO S3.out.1 k4, thru S3.out.2.1 k4, S3.out.2.2.below k4⟩ : S w4 F p fs ∧ Below w.heap.size w w4 ∧ AtW w4 b0 x); clear k4))
  clear c0 c1 c2 c3 c4 c5 c6
  go_wp2_with fail
  go_loopw [6, 29] (fun s i wr => ∃ (k : Nat) (A' : Option Addr) (c' : Nat), k ≤ n ∧ i = .int .i64 (k : Int) ∧ s = .slice A' k c' ∧ Hid (MineE encF 60 wr w4.heap.size A' k c' ((fs.take k).map mirF) ∧ Below w4.heap.size w4 wr)) (fun _ i _ => n - (intOf i).toNat)
  case atStart => exact ⟨0, none, 0, Nat.zero_le _, rfl, rfl, Lib.hid ⟨by simpa using noneE_mine encF 60 w4 w4.heap.size, Below.refl _ _⟩⟩
  case round =>
    obtain ⟨k, A', c', hk, rfl, rfl, H⟩ := hrel
    by_cases hlt : k < n
    · have hki : (k : Int) < (n : Int) := by omega
      have hk0 : ¬ (k : Int) < 0 := by omega
      obtain ⟨f, hf⟩ : ∃ f, fs[k]? = some f := ⟨_, List.getElem?_eq_getElem (by rw [← HN.out.1]; exact hlt)⟩
      obtain ⟨ad, rfl, hab, d0, d1, d2, d3, d4⟩ := (HX.out.thru (thru S4.out.2.1 H.out.2)) k f hf
      have hnf := near49_all HN.out.2.2 f (List.mem_of_getElem? hf)
      have hg1 : IntKind.i64.wrap (3 - f.s) = 3 - f.s := IntWalk.i64_in _ (by have := hnf.sd; omega)
      have hg2 : IntKind.i64.wrap (-f.r) = -f.r := IntWalk.i64_in _ (by have := hnf.r1; have := hnf.r2; omega)
      have hg3 : IntKind.i64.wrap (-f.l) = -f.l := IntWalk.i64_in _ (by have := hnf.l1; have := hnf.l2; omega)
      have HK := Lib.hid hf
      clear hf hnf
      go_upto_region 10 with fail
      clear d0 d1 d2 d3 d4 hg1 hg2 hg3
      generalize hW5 : World.alloc wr _ = W5
      obtain ⟨b8, hb8⟩ : ∃ b8, wr.heap.size = b8 := ⟨_, rfl⟩
      have k5 : Below wr.heap.size wr W5 := by rw [← hW5]; exact ba1 _ _
      have e0 : W5.cell? ⟨b8, 0, none⟩ = some (.int .i64 (3 - f.s)) := by rw [← hW5, ← hb8]; simp [go_sem]
      have e1 : W5.cell? ⟨b8, 1, none⟩ = some (.int .i64 (-f.r)) := by rw [← hW5, ← hb8]; simp [go_sem]
      have e2 : W5.cell? ⟨b8, 2, none⟩ = some (.int .i64 f.t) := by rw [← hW5, ← hb8]; simp [go_sem]
      have e3 : W5.cell? ⟨b8, 3, none⟩ = some (.int .i64 (-f.l)) := by rw [← hW5, ← hb8]; simp [go_sem]
      have e4 : W5.cell? ⟨b8, 4, none⟩ = some (.int .i64 f.b) := by rw [← hW5, ← hb8]; simp [go_sem]
      rw [hb8]
      have M5 := Lib.hid (⟨H.out.1.below k5, thru H.out.2 k5⟩ : MineE encF 60 W5 w4.heap.size A' k c' ((fs.take k).map mirF) ∧ Below w4.heap.size w4 W5)
      clear hW5 hb8 k5
      go_wp2_with (first
        | (at_builtin; refine wpList_append_E (bytes := 40) (by omega) infoF _ rfl (.tmp 49) (.tmp 51) rfl w4.heap.size A' k c' ((fs.take k).map mirF) rfl (M5.out.1.alloc _) (some ⟨W5.heap.size, 0, none⟩) 1 1 [mirF f] rfl (oneE_src encF W5 (mirF f) 60) (by have := HN.out.2.1; omega) (by have := M5.out.2.size; simp; omega) ?_; intro A1 c1 W6 g1; have M6 := Lib.hid (⟨g1.1, AppendedE.below g1 (M5.out.1.alloc _) (thru M5.out.2 (ba1 W5 _)) (Nat.le_refl _) (by have := M5.out.2.size; simp; omega)⟩ : MineE encF 60 W6 w4.heap.size A1 (k + 1) c1 ((fs.take k).map mirF ++ [mirF f]) ∧ Below w4.heap.size w4 W6); clear g1))
      go_roundw
      case rel => exact ⟨k + 1, A1, c1, by omega, by go_num, rfl, Lib.hid (by rw [List.take_add_one, HK.out, List.map_append]; exact M6.out)⟩
      case measure => simp [intOf]; omega
    · obtain rfl : k = n := by omega
      have hend := H.out.1
      rw [List.take_of_length_le (by rw [← HN.out.1]; omega)] at hend
      have HM := Lib.hid (HBm.out wr A' c' (floats_mine hend))
      have S5 := Lib.hid (⟨thruS hO S4.out.1 H.out.2, thru S4.out.2.1 H.out.2, S4.out.2.2.below H.out.2⟩ : S wr F p fs ∧ Below w.heap.size w wr ∧ AtW wr b0 x)
      clear hend hlt hk H HBm HX HN S4
      go_upto_region 15 with (first
        | (go_at_call 10; refine HM.out.mono ?_; rintro e w6 ⟨⟨p2, F2, rfl, hL, hF⟩, k6⟩; have S6 := Lib.hid (⟨thruS hO S5.out.1 k6, thru S5.out.2.1 k6, S5.out.2.2.below k6, hL⟩ : S w6 F p fs ∧ Below w.heap.size w w6 ∧ AtW w6 b0 x ∧ S w6 F2 p2 (fs.map mirF)); clear hL hF k6))
      clear HM S5
      obtain ⟨c0, c1, c2, c3, c4, c5, c6⟩ := S6.out.2.2.1
      obtain ⟨hw3, hw4, hw5, hw6⟩ := HWX.out
      go_upto_region 16 with fail
      clear c0 c1 c2 c3 c4 c5 c6
      generalize hV : World.alloc w6 _ = V
      obtain ⟨b10, hb10⟩ : ∃ b10, w6.heap.size = b10 := ⟨_, rfl⟩
      have kV : Below w6.heap.size w6 V := by rw [← hV]; exact ba1 _ _
      have v10 : Wb V b10 x := by rw [← hV, ← hb10]; exact heap_alloc_new w6 _
      have SV := Lib.hid (⟨S6.out.2.2.1.below kV, v10, kV, by omega⟩ : AtW V b0 x ∧ Wb V b10 x ∧ Below w6.heap.size w6 V ∧ w6.heap.size ≤ b10)
      rw [hb10]
      clear hV hb10 kV v10
      have hne : b0 ≠ b10 := by have := S6.out.2.2.1.block; have := SV.out.2.2.2; omega
      obtain ⟨c0, -, -, -, -, -, -⟩ := SV.out.1
      obtain ⟨d0, -, -, -, -, -, -⟩ := SV.out.2.1.at'
      obtain ⟨f0, -, -, -, -, -, -⟩ := SV.out.2.1.free
      go_upto_region 17 with fail
      clear c0 d0 f0 hw3
      have kU := SV.out.2.2.1.setCell (p := ⟨b10, 0, none⟩) SV.out.2.2.2 (.int .i64 (3 - x.s))
      have v10 := SV.out.2.1.set0 (3 - x.s)
      generalize hU : V.setCell ⟨b10, 0, none⟩ (.int .i64 (3 - x.s)) = U at *
      have SU := Lib.hid (⟨S6.out.2.2.1.below kU, v10, kU⟩ : AtW U b0 x ∧ Wb U b10 { x with s := 3 - x.s } ∧ Below w6.heap.size w6 U)
      clear hU kU v10
      obtain ⟨-, -, c2, c3, -, -, -⟩ := SU.out.1
      obtain ⟨-, -, d2, d3, -, -, -⟩ := SU.out.2.1.at'
      obtain ⟨-, -, f2, f3, -, -, -⟩ := SU.out.2.1.free
      go_region
      clear c2 c3 d2 d3 f2 f3 hw4 hw5
      have kT0 := (SU.out.2.2.setCell (p := ⟨b10, 2, none⟩) SV.out.2.2.2 (.int .i64 (-x.t))).setCell (p := ⟨b10, 3, none⟩) SV.out.2.2.2 (.int .i64 (-x.f))
      have kT : Below w6.heap.size w6 (World.drew ((U.setCell ⟨b10, 2, none⟩ (.int .i64 (-x.t))).setCell ⟨b10, 3, none⟩ (.int .i64 (-x.f)))) := ⟨kT0.os, kT0.tape, kT0.output, kT0.size, kT0.block⟩
      have v10 : Wb (World.drew ((U.setCell ⟨b10, 2, none⟩ (.int .i64 (-x.t))).setCell ⟨b10, 3, none⟩ (.int .i64 (-x.f)))) b10 { x with s := 3 - x.s, f := -x.t, t := -x.f } := (SU.out.2.1.set2 (-x.t)).set3 (-x.f)
      generalize hT : World.drew ((U.setCell ⟨b10, 2, none⟩ (.int .i64 (-x.t))).setCell ⟨b10, 3, none⟩ (.int .i64 (-x.f))) = T at *
      have ST := Lib.hid (⟨S6.out.2.2.1.below kT, v10, kT⟩ : AtW T b0 x ∧ Wb T b10 { x with s := 3 - x.s, f := -x.t, t := -x.f } ∧ Below w6.heap.size w6 T)
      clear hT kT kT0 v10
      obtain ⟨-, c1, -, -, -, -, -⟩ := ST.out.1
      obtain ⟨-, d1, -, -, -, -, -⟩ := ST.out.2.1.at'
      obtain ⟨-, f1, -, -, -, -, -⟩ := ST.out.2.1.free
      by_cases hc1 : x.c = 1
      · have hcb : (x.c == 1) = true := by simp [hc1]
        have HC := Lib.hid hc1
        clear hc1
        go_upto_region 20 with fail
        clear c1 d1 f1 hw6
        have kZ := ST.out.2.2.setCell (p := ⟨b10, 1, none⟩) SV.out.2.2.2 (.int .i64 (3 - x.c))
        have v10 := ST.out.2.1.set1 (3 - x.c)
        generalize hZ : T.setCell ⟨b10, 1, none⟩ (.int .i64 (3 - x.c)) = Z at *
        have SZ := Lib.hid (⟨thruS hO S6.out.1 kZ, thru S6.out.2.1 kZ, S6.out.2.2.1.below kZ, thruS hO S6.out.2.2.2 kZ, by rw [show mirW x = { x with s := 3 - x.s, f := -x.t, t := -x.f, c := 3 - x.c } by unfold mirW mirC; rw [if_pos (by have := HC.out; omega)]]; exact v10⟩ : S Z F p fs ∧ Below w.heap.size w Z ∧ AtW Z b0 x ∧ S Z F2 p2 (fs.map mirF) ∧ Wb Z b10 (mirW x))
        clear hZ kZ v10 ST SU SV S6
        have HS := Lib.hid (fun (st : Nat) w' G (j : Draw.quiet Z st w' G) => thruS hO SZ.out.1 j.1)
        have HS2 := Lib.hid (fun (st : Nat) w' G (j : Draw.quiet Z st w' G) => thruS hO SZ.out.2.2.2.1 j.1)
        have HA := Lib.hid (fun (st : Nat) w' G (j : Draw.quiet Z st w' G) => SZ.out.2.2.1.below j.1)
        have HB := Lib.hid (fun (st : Nat) w' G (j : Draw.quiet Z st w' G) => (SZ.out.2.2.2.2.below j.1).at')
        refine Draw.wp_region_drawn (Draw.quiet Z) 0 [.val (.pointer (some p)), .val (x.v), .val (x.v), .val (.agg #[.int .i64 xa, .int .i64 ya, .int .i64 ra, .int .i64 ba]), .val (.pointer (some p2)), .val ((Wt.v (mirW x))), .val ((Wt.v (mirW x))), .val (.agg #[.int .i64 lb, .int .i64 ya, .int .i64 rb, .int .i64 ba]), .box (.cells #[.int .i64 0, .int .i64 0, .int .i64 0, .int .i64 0] 40), .box (.cells #[.int .i64 0, .int .i64 0, .int .i64 0, .int .i64 0] 40), .put 8 (.cells #[.int .i64 xa, .int .i64 ya, .int .i64 ra, .int .i64 ba] 40), .put 9 (.cells #[.int .i64 lb, .int .i64 ya, .int .i64 rb, .int .i64 ba] 40)] (by kernel_rfl) (by kernel_rfl) (by kernel_rfl) (Draw.quiet_kept Z) (Draw.quiet_start Z) ?_ ?_
        · simp only [Draw.fill, Draw.Leave.value]
          refine ⟨?_, ?_, ?_, ?_, ?_, ?_, ?_, ?_, ?_, ?_, ?_, ?_, trivial⟩
          · intro st gg w' G hw hk
            go_simp
            exact ⟨rfl, rfl⟩
          · intro st gg w' G hw hk
            have q0 := (HA.out st w' G hw).1
            have q1 := (HA.out st w' G hw).2.1
            have q2 := (HA.out st w' G hw).2.2.1
            have q3 := (HA.out st w' G hw).2.2.2.1
            have q4 := (HA.out st w' G hw).2.2.2.2.1
            have q5 := (HA.out st w' G hw).2.2.2.2.2.1
            have q6 := (HA.out st w' G hw).2.2.2.2.2.2
            go_simp
            exact ⟨rfl, rfl⟩
          · intro st gg w' G hw hk
            go_simp
            exact Draw.stays_call (wantOf_any x w')
          · intro st gg w' G hw hk
            go_simp
            exact Draw.stays_call (HFa.out w' _ _ (HS.out st w' G hw))
          · intro st gg w' G hw hk
            go_simp
            exact ⟨rfl, rfl⟩
          · intro st gg w' G hw hk
            have q0 := (HB.out st w' G hw).1
            have q1 := (HB.out st w' G hw).2.1
            have q2 := (HB.out st w' G hw).2.2.1
            have q3 := (HB.out st w' G hw).2.2.2.1
            have q4 := (HB.out st w' G hw).2.2.2.2.1
            have q5 := (HB.out st w' G hw).2.2.2.2.2.1
            have q6 := (HB.out st w' G hw).2.2.2.2.2.2
            go_simp
            exact ⟨rfl, rfl⟩
          · intro st gg w' G hw hk
            go_simp
            exact Draw.stays_call (wantOf_any (mirW x) w')
          · intro st gg w' G hw hk
            go_simp
            exact Draw.stays_call (HFb.out w' _ _ (HS2.out st w' G hw))
          · intro st gg w' G hw hk
            go_simp
          · intro st gg w' G hw hk
            go_simp
          · intro st gg w' G hw y b hy hob hb
            obtain rfl : Draw.Leave.box _ = y := Option.some.inj hy
            obtain rfl : _ = b := Option.some.inj hob
            obtain ⟨r0, r1, r2, r3⟩ := R4.of_block hb
            obtain ⟨f0, f1, f2, f3⟩ := free4 hb
            refine ⟨_, ?_, only_put4 _ 0 0 0 0 xa ya ra ba hb⟩
            clear hb
            go_simp
            rfl
          · intro st gg w' G hw y b hy hob hb
            obtain rfl : Draw.Leave.box _ = y := Option.some.inj hy
            obtain rfl : _ = b := Option.some.inj hob
            obtain ⟨r0, r1, r2, r3⟩ := R4.of_block hb
            obtain ⟨f0, f1, f2, f3⟩ := free4 hb
            refine ⟨_, ?_, only_put4 _ 0 0 0 0 lb ya rb ba hb⟩
            clear hb
            go_simp
            rfl
        intro gg w7 G7 k7 hbox hput hap
        have p8 : R4 w7 (gg 8) xa ya ra ba := R4.of_block (hput 10 8 _ rfl)
        have p9 : R4 w7 (gg 9) lb ya rb ba := R4.of_block (hput 11 9 _ rfl)
        simp only [Draw.fill, Draw.Leave.value]
        go_simp
        generalize gg 8 = b11 at *
        generalize gg 9 = b12 at *
        have K7 := Lib.hid (thru SZ.out.2.1 k7.1)
        clear hbox hput hap k7 HS HS2 HA HB SZ HFa HFb
        obtain ⟨a0, a1, a2, a3⟩ := p8
        obtain ⟨d0, d1, d2, d3⟩ := p9
        obtain ⟨hw1, hw2⟩ := HWB.out
        go_wp2_with fail
        go_ret
        exact ⟨ret_b (by simp), K7.out⟩
      · have hcb : (x.c == 1) = false := by simp [hc1]
        by_cases hc2 : x.c = 2
        · have hcb2 : (x.c == 2) = true := by simp [hc2]
          have HC := Lib.hid hc2
          clear hc1 hc2
          go_upto_region 20 with fail
          clear c1 d1 f1 hw6
          have kZ := ST.out.2.2.setCell (p := ⟨b10, 1, none⟩) SV.out.2.2.2 (.int .i64 (3 - x.c))
          have v10 := ST.out.2.1.set1 (3 - x.c)
          generalize hZ : T.setCell ⟨b10, 1, none⟩ (.int .i64 (3 - x.c)) = Z at *
          have SZ := Lib.hid (⟨thruS hO S6.out.1 kZ, thru S6.out.2.1 kZ, S6.out.2.2.1.below kZ, thruS hO S6.out.2.2.2 kZ, by rw [show mirW x = { x with s := 3 - x.s, f := -x.t, t := -x.f, c := 3 - x.c } by unfold mirW mirC; rw [if_pos (by have := HC.out; omega)]]; exact v10⟩ : S Z F p fs ∧ Below w.heap.size w Z ∧ AtW Z b0 x ∧ S Z F2 p2 (fs.map mirF) ∧ Wb Z b10 (mirW x))
          clear hZ kZ v10 ST SU SV S6
          have HS := Lib.hid (fun (st : Nat) w' G (j : Draw.quiet Z st w' G) => thruS hO SZ.out.1 j.1)
          have HS2 := Lib.hid (fun (st : Nat) w' G (j : Draw.quiet Z st w' G) => thruS hO SZ.out.2.2.2.1 j.1)
          have HA := Lib.hid (fun (st : Nat) w' G (j : Draw.quiet Z st w' G) => SZ.out.2.2.1.below j.1)
          have HB := Lib.hid (fun (st : Nat) w' G (j : Draw.quiet Z st w' G) => (SZ.out.2.2.2.2.below j.1).at')
          refine Draw.wp_region_drawn (Draw.quiet Z) 0 [.val (.pointer (some p)), .val (x.v), .val (x.v), .val (.agg #[.int .i64 xa, .int .i64 ya, .int .i64 ra, .int .i64 ba]), .val (.pointer (some p2)), .val ((Wt.v (mirW x))), .val ((Wt.v (mirW x))), .val (.agg #[.int .i64 lb, .int .i64 ya, .int .i64 rb, .int .i64 ba]), .box (.cells #[.int .i64 0, .int .i64 0, .int .i64 0, .int .i64 0] 40), .box (.cells #[.int .i64 0, .int .i64 0, .int .i64 0, .int .i64 0] 40), .put 8 (.cells #[.int .i64 xa, .int .i64 ya, .int .i64 ra, .int .i64 ba] 40), .put 9 (.cells #[.int .i64 lb, .int .i64 ya, .int .i64 rb, .int .i64 ba] 40)] (by kernel_rfl) (by kernel_rfl) (by kernel_rfl) (Draw.quiet_kept Z) (Draw.quiet_start Z) ?_ ?_
          · simp only [Draw.fill, Draw.Leave.value]
            refine ⟨?_, ?_, ?_, ?_, ?_, ?_, ?_, ?_, ?_, ?_, ?_, ?_, trivial⟩
            · intro st gg w' G hw hk
              go_simp
              exact ⟨rfl, rfl⟩
            · intro st gg w' G hw hk
              have q0 := (HA.out st w' G hw).1
              have q1 := (HA.out st w' G hw).2.1
              have q2 := (HA.out st w' G hw).2.2.1
              have q3 := (HA.out st w' G hw).2.2.2.1
              have q4 := (HA.out st w' G hw).2.2.2.2.1
              have q5 := (HA.out st w' G hw).2.2.2.2.2.1
              have q6 := (HA.out st w' G hw).2.2.2.2.2.2
              go_simp
              exact ⟨rfl, rfl⟩
            · intro st gg w' G hw hk
              go_simp
              exact Draw.stays_call (wantOf_any x w')
            · intro st gg w' G hw hk
              go_simp
              exact Draw.stays_call (HFa.out w' _ _ (HS.out st w' G hw))
            · intro st gg w' G hw hk
              go_simp
              exact ⟨rfl, rfl⟩
            · intro st gg w' G hw hk
              have q0 := (HB.out st w' G hw).1
              have q1 := (HB.out st w' G hw).2.1
              have q2 := (HB.out st w' G hw).2.2.1
              have q3 := (HB.out st w' G hw).2.2.2.1
              have q4 := (HB.out st w' G hw).2.2.2.2.1
              have q5 := (HB.out st w' G hw).2.2.2.2.2.1
              have q6 := (HB.out st w' G hw).2.2.2.2.2.2
              go_simp
              exact ⟨rfl, rfl⟩
            · intro st gg w' G hw hk
              go_simp
              exact Draw.stays_call (wantOf_any (mirW x) w')
            · intro st gg w' G hw hk
              go_simp
              exact Draw.stays_call (HFb.out w' _ _ (HS2.out st w' G hw))
            · intro st gg w' G hw hk
              go_simp
            · intro st gg w' G hw hk
              go_simp
            · intro st gg w' G hw y b hy hob hb
              obtain rfl : Draw.Leave.box _ = y := Option.some.inj hy
              obtain rfl : _ = b := Option.some.inj hob
              obtain ⟨r0, r1, r2, r3⟩ := R4.of_block hb
              obtain ⟨f0, f1, f2, f3⟩ := free4 hb
              refine ⟨_, ?_, only_put4 _ 0 0 0 0 xa ya ra ba hb⟩
              clear hb
              go_simp
              rfl
            · intro st gg w' G hw y b hy hob hb
              obtain rfl : Draw.Leave.box _ = y := Option.some.inj hy
              obtain rfl : _ = b := Option.some.inj hob
              obtain ⟨r0, r1, r2, r3⟩ := R4.of_block hb
              obtain ⟨f0, f1, f2, f3⟩ := free4 hb
              refine ⟨_, ?_, only_put4 _ 0 0 0 0 lb ya rb ba hb⟩
              clear hb
              go_simp
              rfl
          intro gg w7 G7 k7 hbox hput hap
          have p8 : R4 w7 (gg 8) xa ya ra ba := R4.of_block (hput 10 8 _ rfl)
          have p9 : R4 w7 (gg 9) lb ya rb ba := R4.of_block (hput 11 9 _ rfl)
          simp only [Draw.fill, Draw.Leave.value]
          go_simp
          generalize gg 8 = b11 at *
          generalize gg 9 = b12 at *
          have K7 := Lib.hid (thru SZ.out.2.1 k7.1)
          clear hbox hput hap k7 HS HS2 HA HB SZ HFa HFb
          obtain ⟨a0, a1, a2, a3⟩ := p8
          obtain ⟨d0, d1, d2, d3⟩ := p9
          obtain ⟨hw1, hw2⟩ := HWB.out
          go_wp2_with fail
          go_ret
          exact ⟨ret_b (by simp), K7.out⟩
        · have hcb2 : (x.c == 2) = false := by simp [hc2]
          have HC := Lib.hid (⟨hc1, hc2⟩ : ¬ x.c = 1 ∧ ¬ x.c = 2)
          clear hc1 hc2
          go_upto_region 20 with fail
          clear c1 d1 f1 hw6
          obtain ⟨Z, hZ⟩ : ∃ Z, T = Z := ⟨_, rfl⟩
          have SZ := Lib.hid (⟨thruS hO S6.out.1 ST.out.2.2, thru S6.out.2.1 ST.out.2.2, S6.out.2.2.1.below ST.out.2.2, thruS hO S6.out.2.2.2 ST.out.2.2, by rw [show mirW x = { x with s := 3 - x.s, f := -x.t, t := -x.f } by unfold mirW mirC; rw [if_neg (by have := HC.out; omega)]]; exact ST.out.2.1⟩ : S T F p fs ∧ Below w.heap.size w T ∧ AtW T b0 x ∧ S T F2 p2 (fs.map mirF) ∧ Wb T b10 (mirW x))
          rw [hZ] at SZ
          rw [hZ]
          clear hZ ST SU SV S6
          have HS := Lib.hid (fun (st : Nat) w' G (j : Draw.quiet Z st w' G) => thruS hO SZ.out.1 j.1)
          have HS2 := Lib.hid (fun (st : Nat) w' G (j : Draw.quiet Z st w' G) => thruS hO SZ.out.2.2.2.1 j.1)
          have HA := Lib.hid (fun (st : Nat) w' G (j : Draw.quiet Z st w' G) => SZ.out.2.2.1.below j.1)
          have HB := Lib.hid (fun (st : Nat) w' G (j : Draw.quiet Z st w' G) => (SZ.out.2.2.2.2.below j.1).at')
          refine Draw.wp_region_drawn (Draw.quiet Z) 0 [.val (.pointer (some p)), .val (x.v), .val (x.v), .val (.agg #[.int .i64 xa, .int .i64 ya, .int .i64 ra, .int .i64 ba]), .val (.pointer (some p2)), .val ((Wt.v (mirW x))), .val ((Wt.v (mirW x))), .val (.agg #[.int .i64 lb, .int .i64 ya, .int .i64 rb, .int .i64 ba]), .box (.cells #[.int .i64 0, .int .i64 0, .int .i64 0, .int .i64 0] 40), .box (.cells #[.int .i64 0, .int .i64 0, .int .i64 0, .int .i64 0] 40), .put 8 (.cells #[.int .i64 xa, .int .i64 ya, .int .i64 ra, .int .i64 ba] 40), .put 9 (.cells #[.int .i64 lb, .int .i64 ya, .int .i64 rb, .int .i64 ba] 40)] (by kernel_rfl) (by kernel_rfl) (by kernel_rfl) (Draw.quiet_kept Z) (Draw.quiet_start Z) ?_ ?_
          · simp only [Draw.fill, Draw.Leave.value]
            refine ⟨?_, ?_, ?_, ?_, ?_, ?_, ?_, ?_, ?_, ?_, ?_, ?_, trivial⟩
            · intro st gg w' G hw hk
              go_simp
              exact ⟨rfl, rfl⟩
            · intro st gg w' G hw hk
              have q0 := (HA.out st w' G hw).1
              have q1 := (HA.out st w' G hw).2.1
              have q2 := (HA.out st w' G hw).2.2.1
              have q3 := (HA.out st w' G hw).2.2.2.1
              have q4 := (HA.out st w' G hw).2.2.2.2.1
              have q5 := (HA.out st w' G hw).2.2.2.2.2.1
              have q6 := (HA.out st w' G hw).2.2.2.2.2.2
              go_simp
              exact ⟨rfl, rfl⟩
            · intro st gg w' G hw hk
              go_simp
              exact Draw.stays_call (wantOf_any x w')
            · intro st gg w' G hw hk
              go_simp
              exact Draw.stays_call (HFa.out w' _ _ (HS.out st w' G hw))
            · intro st gg w' G hw hk
              go_simp
              exact ⟨rfl, rfl⟩
            · intro st gg w' G hw hk
              have q0 := (HB.out st w' G hw).1
              have q1 := (HB.out st w' G hw).2.1
              have q2 := (HB.out st w' G hw).2.2.1
              have q3 := (HB.out st w' G hw).2.2.2.1
              have q4 := (HB.out st w' G hw).2.2.2.2.1
              have q5 := (HB.out st w' G hw).2.2.2.2.2.1
              have q6 := (HB.out st w' G hw).2.2.2.2.2.2
              go_simp
              exact ⟨rfl, rfl⟩
            · intro st gg w' G hw hk
              go_simp
              exact Draw.stays_call (wantOf_any (mirW x) w')
            · intro st gg w' G hw hk
              go_simp
              exact Draw.stays_call (HFb.out w' _ _ (HS2.out st w' G hw))
            · intro st gg w' G hw hk
              go_simp
            · intro st gg w' G hw hk
              go_simp
            · intro st gg w' G hw y b hy hob hb
              obtain rfl : Draw.Leave.box _ = y := Option.some.inj hy
              obtain rfl : _ = b := Option.some.inj hob
              obtain ⟨r0, r1, r2, r3⟩ := R4.of_block hb
              obtain ⟨f0, f1, f2, f3⟩ := free4 hb
              refine ⟨_, ?_, only_put4 _ 0 0 0 0 xa ya ra ba hb⟩
              clear hb
              go_simp
              rfl
            · intro st gg w' G hw y b hy hob hb
              obtain rfl : Draw.Leave.box _ = y := Option.some.inj hy
              obtain rfl : _ = b := Option.some.inj hob
              obtain ⟨r0, r1, r2, r3⟩ := R4.of_block hb
              obtain ⟨f0, f1, f2, f3⟩ := free4 hb
              refine ⟨_, ?_, only_put4 _ 0 0 0 0 lb ya rb ba hb⟩
              clear hb
              go_simp
              rfl
          intro gg w7 G7 k7 hbox hput hap
          have p8 : R4 w7 (gg 8) xa ya ra ba := R4.of_block (hput 10 8 _ rfl)
          have p9 : R4 w7 (gg 9) lb ya rb ba := R4.of_block (hput 11 9 _ rfl)
          simp only [Draw.fill, Draw.Leave.value]
          go_simp
          generalize gg 8 = b11 at *
          generalize gg 9 = b12 at *
          have K7 := Lib.hid (thru SZ.out.2.1 k7.1)
          clear hbox hput hap k7 HS HS2 HA HB SZ HFa HFb
          obtain ⟨a0, a1, a2, a3⟩ := p8
          obtain ⟨d0, d1, d2, d3⟩ := p9
          obtain ⟨hw1, hw2⟩ := HWB.out
          go_wp2_with fail
          go_ret
          exact ⟨ret_b (by simp), K7.out⟩

theorem mirror_any (hO : SpaceOk S) (hP : PlaceOk S) (A : Option Addr) (n c : Nat) (fs : List Fl) (x : Wt) (w : World) (hn : n = fs.length) (hm : n ≤ 9223372036854775807) (hx : Floats w w.heap.size A fs) :
    Calls Try.prog 8 #[.slice A n c, x.v] w fun e w' => e = .returned (.bool true) ∧ Below w.heap.size w w' := by
  by_cases hh : (fs.all near49 && decide ((n : Int) ≤ 20)) = true
  · simp only [Bool.and_eq_true, decide_eq_true_eq] at hh
    by_cases h2 : rightW x = true
    · have hr := rightW_iff.1 h2
      exact mirror_yes hO hP A n c fs x w hn (by omega) hx hh.1 hr
    · exact mirror_wrong hO hP A n c fs x w hn (by omega) hx hh.1 (by simpa using h2)
  · exact mirror_few hO hP A n c fs x w hn hm hx (by simpa using hh)

end

end Go.Proofs.Ytkabpflbedpbaaa.Place
