/- The contract of the document's look: may a float stand at a height. -/
import Derived.Test.YtkabpflbedpbaaaPart30
import Derived.Deep.DeepCutAuto
namespace Go.Proofs.Ytkabpflbedpbaaa.Place
open Go.RowKit Go.Sort Go.Proofs.Ytkabpflbedpbaaa.Rect Go.Proofs.Ytkabpflbedpbaaa.More Go.Proofs.Ytkabpflbedpbaaa.Shelf Go.Proofs.Ytkabpflbedpbaaa.Space
set_option linter.unusedVariables false
set_option linter.unusedSimpArgs false

set_option maxRecDepth 100000 in
set_option maxHeartbeats 1000000 in
theorem refat_any (A : Option Addr) (n c : Nat) (fs : List Fl) (x : Wt) (y : Int) (w : World) (hn : n = fs.length) (hlen : n ≤ 1000000) (hx : Floats w w.heap.size A fs) (h49 : fs.all near49 = true) (hr : RightW x) (hy : -1125899906842624 ≤ y ∧ y ≤ 1125899906842624) :
    Calls Try.prog 15 #[.slice A n c, x.v, .int .i64 y] w fun e w' => e = .returned (.tuple #[.int .i64 (atQ fs x y), .bool (okQ fs x y)]) ∧ Below w.heap.size w w' := by
  have hht : x.ht ≤ 2305843009213693952 := by have := hr.ht2; omega
  have HBo := Lib.hid (fun w1 (k : Below w.heap.size w w1) => refrows_any A n c fs y x.ht w1 hn hlen (hx.thru k) ⟨by omega, by omega⟩ hht)
  have HFr := Lib.hid (fun w1 (k : Below w.heap.size w w1) => reffree_any A n c fs x.f x.t y x.ht w1 hn hlen (hx.thru k) ⟨by omega, by omega⟩ hht)
  obtain ⟨L1, L2⟩ := bandL_49 h49 y (y + highZ x.ht)
  obtain ⟨R1, R2⟩ := bandR_49 h49 y (y + highZ x.ht)
  obtain ⟨v, hv⟩ : ∃ v, okQ fs x y = v := ⟨_, rfl⟩
  have hz : atQ fs x y = if v then edgeQ fs x y else 0 := by unfold atQ; rw [hv]
  obtain ⟨z, hzz⟩ : ∃ z, atQ fs x y = z := ⟨_, rfl⟩
  rw [hv, hzz]
  rw [hzz] at hz
  unfold okQ at hv
  unfold edgeQ at hz
  generalize bandL fs y (y + highZ x.ht) = L at *
  generalize bandR fs y (y + highZ x.ht) = R at *
  obtain ⟨a, ha⟩ : ∃ a, max x.f L = a := ⟨_, rfl⟩
  obtain ⟨b, hb⟩ : ∃ b, min x.t R = b := ⟨_, rfl⟩
  rw [ha, hb] at HFr
  unfold okN at hv
  unfold edgeN at hz
  rw [ha, hb] at hv hz
  obtain ⟨f1, f2, t1, t2, wd1, wd2, ht1, ht2, y1, y2, sd, cl, ft⟩ := hr
  have hw1 : IntKind.i64.wrap (x.t - x.f) = x.t - x.f := IntWalk.i64_in _ (by omega)
  have hw2 : IntKind.i64.wrap (b - a) = b - a := IntWalk.i64_in _ (by omega)
  have hw3 : IntKind.i64.wrap (x.f + x.wd) = x.f + x.wd := IntWalk.i64_in _ (by omega)
  have hw4 : IntKind.i64.wrap (x.t - x.wd) = x.t - x.wd := IntWalk.i64_in _ (by omega)
  have hw5 : IntKind.i64.wrap (b - x.wd) = b - x.wd := IntWalk.i64_in _ (by omega)
  have HV := Lib.hid hv
  have HZ := Lib.hid hz
  have HW := Lib.hid (⟨hw1, hw2, hw3, hw4, hw5⟩ : IntKind.i64.wrap (x.t - x.f) = x.t - x.f ∧ IntKind.i64.wrap (b - a) = b - a ∧ IntKind.i64.wrap (x.f + x.wd) = x.f + x.wd ∧ IntKind.i64.wrap (x.t - x.wd) = x.t - x.wd ∧ IntKind.i64.wrap (b - x.wd) = b - x.wd)
  clear hn hx h49 hy hht L1 L2 R1 R2 hv hz hzz ha hb f1 f2 t1 t2 wd1 wd2 ht1 ht2 y1 y2 cl ft hw2 hw3 hw4 hw5
  go_enter Try.func15, Try.ntmps15
  go_upto_region 1 with fail
  generalize hW : World.alloc w _ = W
  obtain ⟨b0, hb0⟩ : ∃ b0, w.heap.size = b0 := ⟨_, rfl⟩
  have KW := Lib.hid (show Below w.heap.size w W by rw [← hW]; exact ba1 _ _)
  have AW := Lib.hid (show AtW W b0 x by rw [← hW, ← hb0]; exact atW_boxed _ _ _)
  rw [hb0]
  clear hW hb0
  obtain ⟨c0, c1, c2, c3, c4, c5, c6⟩ := AW.out
  go_upto_region 3 with (first
    | (go_at_call 34; refine (HBo.out _ KW.out).mono ?_; rintro e w1 ⟨rfl, k1⟩; have S1 := Lib.hid (⟨AW.out.below k1, thru KW.out k1⟩ : AtW w1 b0 x ∧ Below w.heap.size w w1); obtain ⟨d0, d1, d2, d3, d4, d5, d6⟩ := S1.out.1; clear k1)
    | (go_at_call 35; refine (HFr.out _ S1.out.2).mono ?_; rintro e w2 ⟨rfl, k2⟩; have S2 := Lib.hid (⟨S1.out.1.below k2, thru S1.out.2 k2⟩ : AtW w2 b0 x ∧ Below w.heap.size w w2); clear k2))
  clear c0 c1 c2 c3 c4 c5 c6 d0 d1 d2 d3 d4 d5 d6
  obtain ⟨c0, c1, c2, c3, c4, c5, c6⟩ := S2.out.1
  obtain ⟨wb, hwb⟩ : ∃ wb : Bool, decide (x.t - x.f < x.wd) = wb := ⟨_, rfl⟩
  have HWB := Lib.hid hwb
  go_upto_region 4 with fail
  clear hwb hw1
  by_cases hs : x.s = 1
  · have hv : (decide (x.wd ≤ b - a) || (wb && (decide (a = x.f) && decide (x.f + x.wd ≤ R)))) = v := by rw [← HV.out, if_pos hs, HWB.out]
    have hz : z = if v then a else 0 := by have := HZ.out; rwa [if_pos hs] at this
    have hsb : (x.s == 1) = true := by simp [hs]
    have HV2 := Lib.hid hv
    clear hv hs sd
    go_upto_region 5 with fail
    have hw2 := HW.out.2.1
    have hw3 := HW.out.2.2.1
    go_cut [67] (fun t wx => t = .bool v ∧ wx = w2)
    case first => as_aux_lemma =>
      obtain ⟨q, hq⟩ : ∃ q : Bool, (a == x.f) = q := ⟨_, rfl⟩
      have HQ := Lib.hid hq
      clear hq
      obtain ⟨r, hr⟩ : ∃ r : Bool, decide (x.wd ≤ b - a) = r := ⟨_, rfl⟩
      have HR := Lib.hid hr
      clear hr
      cases wb <;> cases q <;> cases r
      all_goals
        have hq := HQ.out
        have hr := HR.out
        simp only [decide_eq_true_eq, decide_eq_false_iff_not] at hr
        go_wp2_with fail
        go_meet
        exact ⟨congrArg Value.bool (by rw [← HV2.out, Bool.eq_iff_iff]; simp_all <;> omega), rfl⟩
    case rest =>
    obtain ⟨rfl, rfl⟩ := hcut
    cases v
    · have hz2 : z = 0 := hz
      subst hz2
      clear hz
      go_wp2_with fail
      exact bodyPost_ret (v := .tuple #[.int .i64 0, .bool false]) (by simp [results, Try.results15, go_sem]) rfl ⟨rfl, S2.out.2⟩
    · have hz2 : z = a := hz
      subst hz2
      clear hz
      go_wp2_with fail
      exact bodyPost_ret (v := .tuple #[.int .i64 z, .bool true]) (by simp [results, Try.results15, go_sem]) rfl ⟨rfl, S2.out.2⟩
  · have hv : (decide (x.wd ≤ b - a) || (wb && (decide (b = x.t) && decide (L ≤ x.t - x.wd)))) = v := by rw [← HV.out, if_neg hs, HWB.out]
    have hz : z = if v then b - x.wd else 0 := by have := HZ.out; rwa [if_neg hs] at this
    have hsb : (x.s == 1) = false := by simp [hs]
    have HV2 := Lib.hid hv
    clear hv hs sd
    go_upto_region 8 with fail
    have hw2 := HW.out.2.1
    have hw4 := HW.out.2.2.2.1
    have hw5 := HW.out.2.2.2.2
    go_cut [92] (fun t wx => t = .bool v ∧ wx = w2)
    case first => as_aux_lemma =>
      obtain ⟨q, hq⟩ : ∃ q : Bool, (b == x.t) = q := ⟨_, rfl⟩
      have HQ := Lib.hid hq
      clear hq
      obtain ⟨r, hr⟩ : ∃ r : Bool, decide (x.wd ≤ b - a) = r := ⟨_, rfl⟩
      have HR := Lib.hid hr
      clear hr
      cases wb <;> cases q <;> cases r
      all_goals
        have hq := HQ.out
        have hr := HR.out
        simp only [decide_eq_true_eq, decide_eq_false_iff_not] at hr
        go_wp2_with fail
        go_meet
        exact ⟨congrArg Value.bool (by rw [← HV2.out, Bool.eq_iff_iff]; simp_all <;> omega), rfl⟩
    case rest =>
    obtain ⟨rfl, rfl⟩ := hcut
    cases v
    · have hz2 : z = 0 := hz
      subst hz2
      clear hz
      go_wp2_with fail
      exact bodyPost_ret (v := .tuple #[.int .i64 0, .bool false]) (by simp [results, Try.results15, go_sem]) rfl ⟨rfl, S2.out.2⟩
    · have hz2 : z = b - x.wd := hz
      subst hz2
      clear hz
      go_wp2_with fail
      exact bodyPost_ret (v := .tuple #[.int .i64 (b - x.wd), .bool true]) (by simp [results, Try.results15, go_sem]) rfl ⟨rfl, S2.out.2⟩

end Go.Proofs.Ytkabpflbedpbaaa.Place
