/- The law: no full float meets a box, wherever it is placed. -/
import Derived.Test.YtmpfjkhboenfcaaPart25
namespace Go.Proofs.Ytmpfjkhboenfcaa.Avoid
open Go.RowKit Go.Sort Go.Proofs.Ytmpfjkhboenfcaa.Rect Go.Proofs.Ytmpfjkhboenfcaa.More Go.Proofs.Ytmpfjkhboenfcaa.Shelf Go.Proofs.Ytmpfjkhboenfcaa.Space Go.Proofs.Ytmpfjkhboenfcaa.Place
set_option linter.unusedVariables false
set_option linter.unusedSimpArgs false

section
variable {S : World → (Nat → Prop) → Addr → List Fl → Prop}

set_option maxRecDepth 100000 in
set_option maxHeartbeats 1000000 in
theorem vapart_few (hO : SpaceOk S) (hP : AvoidOk S) (A : Option Addr) (n c : Nat) (fs : List Fl) (x : Vt) (w : World) (hn : n = fs.length) (hlen : n ≤ 9223372036854775807) (hx : Floats w w.heap.size A fs) (hv : (fs.all near49 && decide ((n : Int) ≤ 30)) = false) :
    Calls Try.prog 4 #[.slice A n c, x.v] w fun e w' => e = .returned (.bool true) ∧ Below w.heap.size w w' := by
  have HBe := Lib.hid (fun w1 (k : Below w.heap.size w w1) => vbegin_no A n c fs 30 w1 hn hlen (hx.thru k) hv)
  clear hn hx hv
  go_enter Try.func4, Try.ntmps4
  go_upto_region 1 with fail
  generalize hW1 : World.alloc w _ = W
  obtain ⟨b0, hb0⟩ : ∃ b0, w.heap.size = b0 := ⟨_, rfl⟩
  have KW := Lib.hid (show Below w.heap.size w W by rw [← hW1]; exact ba1 _ _)
  have AW := Lib.hid (show AtV W b0 x by rw [← hW1, ← hb0]; exact atV_boxed _ _ _)
  rw [hb0]
  clear hW1 hb0
  go_upto_region 3 with (first
    | (go_at_call 9; refine (HBe.out _ KW.out).mono ?_; rintro e w2 ⟨rfl, k2⟩; have K2 := Lib.hid (thru KW.out k2); clear k2)
    | (go_at_call 10; refine (vspeaks hO hP _).mono ?_; rintro e w3 ⟨rfl, k3⟩; have K3 := Lib.hid (thru K2.out k3); clear k3))
  go_wp2_with (first
    | (go_at_call 10; refine (vspeaks hO hP _).mono ?_; rintro e w9 ⟨rfl, k9⟩; have K9 := Lib.hid (thru K3.out k9); clear k9))
  go_ret
  exact ⟨rfl, K9.out⟩

set_option maxRecDepth 100000 in
set_option maxHeartbeats 1000000 in
theorem vapart_wrong (hO : SpaceOk S) (hP : AvoidOk S) (A : Option Addr) (n c : Nat) (fs : List Fl) (x : Vt) (w : World) (hn : n = fs.length) (hlen : n ≤ 30) (hx : Floats w w.heap.size A fs) (h49 : fs.all near49 = true) (hr : rightV x = false) :
    Calls Try.prog 4 #[.slice A n c, x.v] w fun e w' => e = .returned (.bool true) ∧ Below w.heap.size w w' := by
  have HBe := Lib.hid (fun w1 (k : Below w.heap.size w w1) => vbegin_any hO A n c fs 30 w1 hn (by omega) (by omega) (hx.thru k) h49)
  have HRi := Lib.hid (fun w => vright_is x false hr w)
  clear hn hx h49
  go_enter Try.func4, Try.ntmps4
  go_upto_region 1 with fail
  generalize hW1 : World.alloc w _ = W
  obtain ⟨b0, hb0⟩ : ∃ b0, w.heap.size = b0 := ⟨_, rfl⟩
  have KW := Lib.hid (show Below w.heap.size w W by rw [← hW1]; exact ba1 _ _)
  have AW := Lib.hid (show AtV W b0 x by rw [← hW1, ← hb0]; exact atV_boxed _ _ _)
  rw [hb0]
  clear hW1 hb0
  go_upto_region 3 with (first
    | (go_at_call 9; refine (HBe.out _ KW.out).mono ?_; rintro e w2 ⟨⟨p, F, rfl, hL, hF⟩, k2⟩; have S2 := Lib.hid (⟨hL, thru KW.out k2, AW.out.below k2⟩ : S w2 F p fs ∧ Below w.heap.size w w2 ∧ AtV w2 b0 x); clear hL hF k2)
    | (go_at_call 10; refine (vspeaks hO hP _).mono ?_; rintro e w3 ⟨rfl, k3⟩; have S3 := Lib.hid (⟨thruS hO S2.out.1 k3, thru S2.out.2.1 k3, S2.out.2.2.below k3⟩ : S w3 F p fs ∧ Below w.heap.size w w3 ∧ AtV w3 b0 x); obtain ⟨c0, c1, c2, c3, c4⟩ := S3.out.2.2; clear k3)
    | (go_at_call 11; refine (HRi.out _).mono ?_; rintro e w4 ⟨rfl, k4⟩; have S4 := Lib.hid (⟨thruS hO S3.out.1 k4, thru S3.out.2.1 k4, S3.out.2.2.below k4⟩ : S w4 F p fs ∧ Below w.heap.size w w4 ∧ AtV w4 b0 x); clear k4))
  go_wp2_with (first
    | (go_at_call 10; refine (vspeaks hO hP _).mono ?_; rintro e w9 ⟨rfl, k9⟩; have K9 := Lib.hid (thru S4.out.2.1 k9); clear k9))
  go_ret
  exact ⟨rfl, K9.out⟩

set_option maxRecDepth 100000 in
set_option maxHeartbeats 1000000 in
theorem vapart_yes (hO : SpaceOk S) (hP : AvoidOk S) (A : Option Addr) (n c : Nat) (fs : List Fl) (x : Vt) (w : World) (hn : n = fs.length) (hlen : n ≤ 30) (hx : Floats w w.heap.size A fs) (h49 : fs.all near49 = true) (hr : RightV x) :
    Calls Try.prog 4 #[.slice A n c, x.v] w fun e w' => e = .returned (.bool true) ∧ Below w.heap.size w w' := by
  have HBe := Lib.hid (fun w1 (k : Below w.heap.size w w1) => vbegin_any hO A n c fs 30 w1 hn (by omega) (by omega) (hx.thru k) h49)
  have HRi := Lib.hid (fun w => vright_is x true (rightV_iff.2 hr) w)
  have HFi := Lib.hid (fun w1 F p (h : S w1 F p fs) => hP.find w1 F p fs x h h49 hr)
  have HFl := Lib.hid (fun w1 F p (h : S w1 F p fs) => hO.floats w1 F p fs h (near49_near h49))
  have HM := Lib.hid (fun o (ho : o ∈ fs) => avoid_meet h49 hr ho (fx := findVX fs x) (fy := findVY fs x) rfl rfl)
  have hf := (findV_is h49 hr).1
  have hfy := findVY_49 h49 hr
  have hfx := findV_49 h49 hr
  have hsd := avoid_side h49 hr
  obtain ⟨f1, f2, t1, t2, wd1, wd2, ht1, ht2, y1, y2⟩ := hr
  have hw1 : IntKind.i64.wrap (findVX fs x + x.wd - findVX fs x) = x.wd := by rw [IntWalk.i64_in _ (by omega)]; omega
  have hw2 : IntKind.i64.wrap (findVY fs x + x.ht - findVY fs x) = x.ht := by rw [IntWalk.i64_in _ (by omega)]; omega
  have hw3 : IntKind.i64.wrap (x.t - x.f) = x.t - x.f := IntWalk.i64_in _ (by omega)
  have hg1 : ¬ findVY fs x < x.y := by omega
  have hg2 : ¬ findVX fs x < x.f := by omega
  unfold boxV at HFi
  generalize findVX fs x + x.wd = fr at *
  generalize findVY fs x + x.ht = fb at *
  generalize findVX fs x = fx at *
  generalize findVY fs x = fy at *
  have HW := Lib.hid (⟨hw1, hw2, hw3, hg1, hg2⟩ : IntKind.i64.wrap (fr - fx) = x.wd ∧ IntKind.i64.wrap (fb - fy) = x.ht ∧ IntKind.i64.wrap (x.t - x.f) = x.t - x.f ∧ ¬ fy < x.y ∧ ¬ fx < x.f)
  have HSD := Lib.hid hsd
  have HN := Lib.hid (⟨hn, hlen⟩ : n = fs.length ∧ n ≤ 30)
  rw [← hn] at HFl
  clear hn hx h49 hf hfy hfx hsd f1 f2 t1 t2 wd1 wd2 ht1 ht2 y1 y2 hw1 hw2 hw3 hg1 hg2
  go_enter Try.func4, Try.ntmps4
  go_upto_region 1 with fail
  generalize hW1 : World.alloc w _ = W
  obtain ⟨b0, hb0⟩ : ∃ b0, w.heap.size = b0 := ⟨_, rfl⟩
  have KW := Lib.hid (show Below w.heap.size w W by rw [← hW1]; exact ba1 _ _)
  have AW := Lib.hid (show AtV W b0 x by rw [← hW1, ← hb0]; exact atV_boxed _ _ _)
  rw [hb0]
  clear hW1 hb0
  go_upto_region 4 with (first
    | (go_at_call 9; refine (HBe.out _ KW.out).mono ?_; rintro e w2 ⟨⟨p, F, rfl, hL, hF⟩, k2⟩; have S2 := Lib.hid (⟨hL, thru KW.out k2, AW.out.below k2⟩ : S w2 F p fs ∧ Below w.heap.size w w2 ∧ AtV w2 b0 x); clear hL hF k2)
    | (go_at_call 10; refine (vspeaks hO hP _).mono ?_; rintro e w3 ⟨rfl, k3⟩; have S3 := Lib.hid (⟨thruS hO S2.out.1 k3, thru S2.out.2.1 k3, S2.out.2.2.below k3⟩ : S w3 F p fs ∧ Below w.heap.size w w3 ∧ AtV w3 b0 x); obtain ⟨c0, c1, c2, c3, c4⟩ := S3.out.2.2; clear k3)
    | (go_at_call 11; refine (HRi.out _).mono ?_; rintro e w4 ⟨rfl, k4⟩; have S4 := Lib.hid (⟨thruS hO S3.out.1 k4, thru S3.out.2.1 k4, S3.out.2.2.below k4⟩ : S w4 F p fs ∧ Below w.heap.size w w4 ∧ AtV w4 b0 x); clear k4))
  clear c0 c1 c2 c3 c4
  obtain ⟨c0, c1, c2, c3, c4⟩ := S4.out.2.2
  go_upto_region 5 with (first
    | (go_at_call 13; refine (vwantOf_any x _).mono ?_; rintro e w5 ⟨rfl, k5⟩; have S5 := Lib.hid (⟨thruS hO S4.out.1 k5, thru S4.out.2.1 k5, S4.out.2.2.below k5⟩ : S w5 F p fs ∧ Below w.heap.size w w5 ∧ AtV w5 b0 x); clear k5)
    | (go_at_call 15; refine (HFi.out _ _ _ S5.out.1).mono ?_; rintro e w6 ⟨rfl, k6⟩; have S6 := Lib.hid (⟨thruS hO S5.out.1 k6, thru S5.out.2.1 k6, S5.out.2.2.below k6⟩ : S w6 F p fs ∧ Below w.heap.size w w6 ∧ AtV w6 b0 x); clear k6))
  clear c0 c1 c2 c3 c4
  generalize hW7 : World.alloc w6 _ = W7
  obtain ⟨b1, hb1⟩ : ∃ b1, w6.heap.size = b1 := ⟨_, rfl⟩
  have k7 : Below w6.heap.size w6 W7 := by rw [← hW7]; exact ba1 _ _
  have r7 : R4 W7 b1 fx fy fr fb := by rw [← hW7, ← hb1]; exact R4.of_block (heap_alloc_new w6 _)
  have S7 := Lib.hid (⟨thruS hO S6.out.1 k7, thru S6.out.2.1 k7, S6.out.2.2.below k7, r7⟩ : S W7 F p fs ∧ Below w.heap.size w W7 ∧ AtV W7 b0 x ∧ R4 W7 b1 fx fy fr fb)
  rw [hb1]
  clear hW7 hb1 k7 r7 S6 S5 S4
  obtain ⟨c0, c1, c2, c3, c4⟩ := S7.out.2.2.1
  obtain ⟨r0, r1, r2, r3⟩ := S7.out.2.2.2
  obtain ⟨hw1, hw2, hw3, hg1, hg2⟩ := HW.out
  go_upto_region 7 with fail
  clear c0 c1 c2 c3 c4 r0 r1 r2 r3 hw1 hw2 hw3 hg1 hg2
  go_wp2_with (first
    | (go_at_call 18; refine (HFl.out _ _ _ S7.out.1).mono ?_; rintro e w8 ⟨⟨A8, c8, rfl, hm⟩, k8⟩; have S8 := Lib.hid (⟨thru S7.out.2.1 k8, S7.out.2.2.1.below k8, S7.out.2.2.2.below k8, hm⟩ : Below w.heap.size w w8 ∧ AtV w8 b0 x ∧ R4 w8 b1 fx fy fr fb ∧ MineE encF 48 w8 W7.heap.size A8 n c8 fs); clear hm k8))
  go_loopw [62] (fun i ws => ∃ j : Nat, j ≤ n ∧ i = .int .i64 (j : Int) ∧ Hid (Below w8.heap.size w8 ws)) (fun i _ => n - (intOf i).toNat)
  case atStart => exact ⟨0, Nat.zero_le _, rfl, Lib.hid (Below.refl _ _)⟩
  case round =>
    obtain ⟨j, hj, rfl, G⟩ := hrel
    by_cases hlj : j < n
    · have hji : (j : Int) < (n : Int) := by omega
      have hj0 : ¬ (j : Int) < 0 := by omega
      obtain ⟨o, ho⟩ : ∃ o, fs[j]? = some o := ⟨_, List.getElem?_eq_getElem (by rw [← HN.out.1]; exact hlj)⟩
      have P := S8.out.2.2.2.below G.out
      obtain ⟨g, rfl, -, hgl, -, -⟩ := P.form (by omega)
      have m0 : wr.cell? ⟨g, j * 5, none⟩ = some (.int .i64 o.s) := MineE.at P j o ho 0 (by decide)
      have m1 : wr.cell? ⟨g, j * 5 + 1, none⟩ = some (.int .i64 o.l) := MineE.at P j o ho 1 (by decide)
      have m2 : wr.cell? ⟨g, j * 5 + 2, none⟩ = some (.int .i64 o.t) := MineE.at P j o ho 2 (by decide)
      have m3 : wr.cell? ⟨g, j * 5 + 3, none⟩ = some (.int .i64 o.r) := MineE.at P j o ho 3 (by decide)
      have m4 : wr.cell? ⟨g, j * 5 + 4, none⟩ = some (.int .i64 o.b) := MineE.at P j o ho 4 (by decide)
      have HMe := Lib.hid (fun w => meet_is o.l o.t o.r o.b fx fy fr fb false (HM.out o (List.mem_of_getElem? ho)) w)
      clear P hgl ho
      go_upto_region 10 with fail
      clear m0 m1 m2 m3 m4
      generalize hWd : World.alloc wr _ = Wd
      obtain ⟨b12, hb12⟩ : ∃ b12, wr.heap.size = b12 := ⟨_, rfl⟩
      have kd : Below wr.heap.size wr Wd := by rw [← hWd]; exact ba1 _ _
      have bd : Wd.heap[b12]? = some (.cells #[.int .i64 o.s, .int .i64 o.l, .int .i64 o.t, .int .i64 o.r, .int .i64 o.b] 48) := by rw [← hWd, ← hb12]; exact heap_alloc_new wr _
      have s1 : Wd.cell? ⟨b12, 1, none⟩ = some (.int .i64 o.l) := by simp [World.cell?, bd]
      have s2 : Wd.cell? ⟨b12, 2, none⟩ = some (.int .i64 o.t) := by simp [World.cell?, bd]
      have s3 : Wd.cell? ⟨b12, 3, none⟩ = some (.int .i64 o.r) := by simp [World.cell?, bd]
      have s4 : Wd.cell? ⟨b12, 4, none⟩ = some (.int .i64 o.b) := by simp [World.cell?, bd]
      have Kd := Lib.hid (thru G.out kd)
      rw [hb12]
      clear hWd hb12 kd bd
      obtain ⟨r0, r1, r2, r3⟩ := S8.out.2.2.1.below Kd.out
      go_wp2_with (first
        | (go_at_call 19; refine (HMe.out _).mono ?_; rintro e we ⟨rfl, ke⟩; have Ke := Lib.hid (thru Kd.out ke); clear ke))
      go_roundw
      case rel => exact ⟨j + 1, by omega, by go_num, Ke⟩
      case measure => simp [intOf]; omega
    · obtain rfl : j = n := by omega
      obtain ⟨c0, c1, c2, c3, c4⟩ := S8.out.2.1.below G.out
      obtain ⟨r0, r1, r2, r3⟩ := S8.out.2.2.1.below G.out
      obtain ⟨-, -, hw3, -, -⟩ := HW.out
      by_cases hs : fr ≤ x.t
      · go_wp2_with fail
        go_ret
        exact ⟨rfl, thru S8.out.1 G.out⟩
      · obtain ⟨h1, rfl⟩ : x.t - x.f < x.wd ∧ fx = x.f := by
          rcases HSD.out with h | h
          · exact absurd h hs
          · exact h
        go_wp2_with fail
        go_ret
        exact ⟨rfl, thru S8.out.1 G.out⟩

theorem vapart_any (hO : SpaceOk S) (hP : AvoidOk S) (A : Option Addr) (n c : Nat) (fs : List Fl) (x : Vt) (w : World) (hn : n = fs.length) (hm : n ≤ 9223372036854775807) (hx : Floats w w.heap.size A fs) :
    Calls Try.prog 4 #[.slice A n c, x.v] w fun e w' => e = .returned (.bool true) ∧ Below w.heap.size w w' := by
  by_cases hh : (fs.all near49 && decide ((n : Int) ≤ 30)) = true
  · simp only [Bool.and_eq_true, decide_eq_true_eq] at hh
    by_cases h2 : rightV x = true
    · have hr := rightV_iff.1 h2
      exact vapart_yes hO hP A n c fs x w hn (by omega) hx hh.1 hr
    · exact vapart_wrong hO hP A n c fs x w hn (by omega) hx hh.1 (by simpa using h2)
  · exact vapart_few hO hP A n c fs x w hn hm hx (by simpa using hh)

end

end Go.Proofs.Ytmpfjkhboenfcaa.Avoid
