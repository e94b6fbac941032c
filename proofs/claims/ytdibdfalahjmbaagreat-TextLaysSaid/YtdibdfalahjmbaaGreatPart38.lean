/- Texts of this proof that follow each other, in one file. -/
import Derived.Test.YtdibdfalahjmbaaGreatPart10
import Derived.Test.YtdibdfalahjmbaaGreatPart6
import Derived.Deep.DeepCutAuto
namespace Go.Proofs.YtdibdfalahjmbaaGreat.Place

open Go.RowKit Go.Sort Go.Proofs.YtdibdfalahjmbaaGreat.Rect Go.Proofs.YtdibdfalahjmbaaGreat.More Go.Proofs.YtdibdfalahjmbaaGreat.Shelf Go.Proofs.YtdibdfalahjmbaaGreat.Space

set_option linter.unusedVariables false

set_option linter.unusedSimpArgs false

set_option maxRecDepth 100000 in
set_option maxHeartbeats 600000 in
theorem refstart_any (A : Option Addr) (n c : Nat) (fs : List Fl) (x : Wt) (w : World) (hn : n = fs.length) (hlen : n ≤ 1000000) (hx : Floats w w.heap.size A fs) :
    Calls Tryz.prog 39 #[.slice A n c, x.v] w fun e w' => e = .returned (.int .i64 (startQ fs x)) ∧ Below w.heap.size w w' := by
  obtain ⟨v, hv⟩ : ∃ v : Bool, decide (0 < fs.length) = v := ⟨_, rfl⟩
  have HCl := Lib.hid (fun w1 (k : Below w.heap.size w w1) => refclear_any A n c fs x.c x.y w1 hn hlen (hx.thru k))
  have HLa := Lib.hid (fun w1 (k : Below w.heap.size w w1) => reflast_any A n c fs v w1 hn hlen (hx.thru k) hv)
  obtain ⟨z, hz⟩ : ∃ z, startQ fs x = z := ⟨_, rfl⟩
  rw [hz]
  unfold startQ at hz
  rw [hv] at hz
  generalize clearS fs x.c x.y = cl at hz HCl
  generalize lastD fs = la at hz HLa
  clear hx hn hv
  cases v
  · have hz2 : cl = z := by simpa using hz
    subst hz2
    clear hz
    go_enter Tryz.func39, Tryz.ntmps39
    go_wp2_with (first
      | (go_at_call 54; refine (HCl.out _ (ba1 w _)).mono ?_; rintro e w1 ⟨rfl, k1⟩; have K1 := Lib.hid (thru (ba1 w _) k1); clear k1)
      | (go_at_call 55; refine (HLa.out _ K1.out).mono ?_; rintro e w2 ⟨rfl, k2⟩; have K2 := Lib.hid (thru K1.out k2); clear k2))
    go_ret
    exact ⟨rfl, K2.out⟩
  · by_cases g : cl < la
    · have hz2 : la = z := by simpa [g] using hz
      subst hz2
      clear hz
      go_enter Tryz.func39, Tryz.ntmps39
      go_wp2_with (first
        | (go_at_call 54; refine (HCl.out _ (ba1 w _)).mono ?_; rintro e w1 ⟨rfl, k1⟩; have K1 := Lib.hid (thru (ba1 w _) k1); clear k1)
        | (go_at_call 55; refine (HLa.out _ K1.out).mono ?_; rintro e w2 ⟨rfl, k2⟩; have K2 := Lib.hid (thru K1.out k2); clear k2))
      go_ret
      exact ⟨rfl, K2.out⟩
    · have hz2 : cl = z := by simpa [g] using hz
      subst hz2
      clear hz
      go_enter Tryz.func39, Tryz.ntmps39
      go_wp2_with (first
        | (go_at_call 54; refine (HCl.out _ (ba1 w _)).mono ?_; rintro e w1 ⟨rfl, k1⟩; have K1 := Lib.hid (thru (ba1 w _) k1); clear k1)
        | (go_at_call 55; refine (HLa.out _ K1.out).mono ?_; rintro e w2 ⟨rfl, k2⟩; have K2 := Lib.hid (thru K1.out k2); clear k2))
      go_ret
      exact ⟨rfl, K2.out⟩

end Go.Proofs.YtdibdfalahjmbaaGreat.Place

namespace Go.Proofs.YtdibdfalahjmbaaGreat.Place

open Go.RowKit Go.Sort Go.Proofs.YtdibdfalahjmbaaGreat.Rect Go.Proofs.YtdibdfalahjmbaaGreat.More Go.Proofs.YtdibdfalahjmbaaGreat.Shelf Go.Proofs.YtdibdfalahjmbaaGreat.Space

set_option linter.unusedVariables false

set_option linter.unusedSimpArgs false

set_option maxRecDepth 100000 in
set_option maxHeartbeats 1000000 in
theorem refat_any (A : Option Addr) (n c : Nat) (fs : List Fl) (x : Wt) (y : Int) (w : World) (hn : n = fs.length) (hlen : n ≤ 1000000) (hx : Floats w w.heap.size A fs) (h49 : fs.all near49 = true) (hr : RightW x) (hy : -1125899906842624 ≤ y ∧ y ≤ 1125899906842624) :
    Calls Tryz.prog 40 #[.slice A n c, x.v, .int .i64 y] w fun e w' => e = .returned (.tuple #[.int .i64 (atQ fs x y), .bool (okQ fs x y)]) ∧ Below w.heap.size w w' := by
  have hht : x.ht ≤ 2305843009213693952 := by have := hr.ht2; omega
  have HBo := Lib.hid (fun w1 (k : Below w.heap.size w w1) => refrows_any A n c fs y x.ht w1 hn hlen (hx.thru k) ⟨by omega, by omega⟩ hht)
  have HFr := Lib.hid (fun w1 (k : Below w.heap.size w w1) => reffree_any A n c fs x.f x.t y x.ht w1 hn hlen (hx.thru k) ⟨by omega, by omega⟩ hht)
  obtain ⟨L1, L2⟩ := bandL_49 h49 y (y + highZ x.ht)
  obtain ⟨R1, R2⟩ := bandR_49 h49 y (y + highZ x.ht)
  obtain ⟨v, hv⟩ : ∃ v, okQ fs x y = v := ⟨_, rfl⟩
  have hz : atQ fs x y = if v then edgeQ fs x y else 0 := by unfold atQ; rw [hv]
  obtain ⟨z, hzz⟩ : ∃ z, atQ fs x y = z := ⟨_, rfl⟩
  rw [hv, hzz]
  rw [hzz] at hz
  unfold okQ at hv
  unfold edgeQ at hz
  generalize bandL fs y (y + highZ x.ht) = L at *
  generalize bandR fs y (y + highZ x.ht) = R at *
  obtain ⟨a, ha⟩ : ∃ a, max x.f L = a := ⟨_, rfl⟩
  obtain ⟨b, hb⟩ : ∃ b, min x.t R = b := ⟨_, rfl⟩
  rw [ha, hb] at HFr
  unfold okN at hv
  unfold edgeN at hz
  rw [ha, hb] at hv hz
  obtain ⟨f1, f2, t1, t2, wd1, wd2, ht1, ht2, y1, y2, sd, cl, ft⟩ := hr
  have hw1 : IntKind.i64.wrap (x.t - x.f) = x.t - x.f := IntWalk.i64_in _ (by omega)
  have hw2 : IntKind.i64.wrap (b - a) = b - a := IntWalk.i64_in _ (by omega)
  have hw3 : IntKind.i64.wrap (x.f + x.wd) = x.f + x.wd := IntWalk.i64_in _ (by omega)
  have hw4 : IntKind.i64.wrap (x.t - x.wd) = x.t - x.wd := IntWalk.i64_in _ (by omega)
  have hw5 : IntKind.i64.wrap (b - x.wd) = b - x.wd := IntWalk.i64_in _ (by omega)
  have HV := Lib.hid hv
  have HZ := Lib.hid hz
  have HW := Lib.hid (⟨hw1, hw2, hw3, hw4, hw5⟩ : IntKind.i64.wrap (x.t - x.f) = x.t - x.f ∧ IntKind.i64.wrap (b - a) = b - a ∧ IntKind.i64.wrap (x.f + x.wd) = x.f + x.wd ∧ IntKind.i64.wrap (x.t - x.wd) = x.t - x.wd ∧ IntKind.i64.wrap (b - x.wd) = b - x.wd)
  clear hn hx h49 hy hht L1 L2 R1 R2 hv hz hzz ha hb f1 f2 t1 t2 wd1 wd2 ht1 ht2 y1 y2 cl ft hw2 hw3 hw4 hw5
  go_enter Tryz.func40, Tryz.ntmps40
  go_upto_region 1 with fail
  generalize hW : World.alloc w _ = W
  obtain ⟨b0, hb0⟩ : ∃ b0, w.heap.size = b0 := ⟨_, rfl⟩
  have KW := Lib.hid (show Below w.heap.size w W by rw [← hW]; exact ba1 _ _)
  have AW := Lib.hid (show AtW W b0 x by rw [← hW, ← hb0]; exact atW_boxed _ _ _)
  rw [hb0]
  clear hW hb0
  obtain ⟨c0, c1, c2, c3, c4, c5, c6⟩ := AW.out
  go_upto_region 3 with (first
    | (go_at_call 51; refine (HBo.out _ KW.out).mono ?_; rintro e w1 ⟨rfl, k1⟩; have S1 := Lib.hid (⟨AW.out.below k1, thru KW.out k1⟩ : AtW w1 b0 x ∧ Below w.heap.size w w1); obtain ⟨d0, d1, d2, d3, d4, d5, d6⟩ := S1.out.1; clear k1)
    | (go_at_call 50; refine (HFr.out _ S1.out.2).mono ?_; rintro e w2 ⟨rfl, k2⟩; have S2 := Lib.hid (⟨S1.out.1.below k2, thru S1.out.2 k2⟩ : AtW w2 b0 x ∧ Below w.heap.size w w2); clear k2))
  clear c0 c1 c2 c3 c4 c5 c6 d0 d1 d2 d3 d4 d5 d6
  obtain ⟨c0, c1, c2, c3, c4, c5, c6⟩ := S2.out.1
  obtain ⟨wb, hwb⟩ : ∃ wb : Bool, decide (x.t - x.f < x.wd) = wb := ⟨_, rfl⟩
  have HWB := Lib.hid hwb
  go_upto_region 4 with fail
  clear hwb hw1
  by_cases hs : x.s = 1
  · have hv : (decide (x.wd ≤ b - a) || (wb && (decide (a = x.f) && decide (x.f + x.wd ≤ R)))) = v := by rw [← HV.out, if_pos hs, HWB.out]
    have hz : z = if v then a else 0 := by have := HZ.out; rwa [if_pos hs] at this
    have hsb : (x.s == 1) = true := by simp [hs]
    have HV2 := Lib.hid hv
    clear hv hs sd
    go_upto_region 5 with fail
    have hw2 := HW.out.2.1
    have hw3 := HW.out.2.2.1
    go_cut [67] (fun t wx => t = .bool v ∧ wx = w2)
    case first => as_aux_lemma =>
      obtain ⟨q, hq⟩ : ∃ q : Bool, (a == x.f) = q := ⟨_, rfl⟩
      have HQ := Lib.hid hq
      clear hq
      obtain ⟨r, hr⟩ : ∃ r : Bool, decide (x.wd ≤ b - a) = r := ⟨_, rfl⟩
      have HR := Lib.hid hr
      clear hr
      cases wb <;> cases q <;> cases r
      all_goals
        have hq := HQ.out
        have hr := HR.out
        simp only [decide_eq_true_eq, decide_eq_false_iff_not] at hr
        go_wp2_with fail
        go_meet
        exact ⟨congrArg Value.bool (by rw [← HV2.out, Bool.eq_iff_iff]; simp_all <;> omega), rfl⟩
    case rest =>
    obtain ⟨rfl, rfl⟩ := hcut
    cases v
    · have hz2 : z = 0 := hz
      subst hz2
      clear hz
      go_wp2_with fail
      exact bodyPost_ret (v := .tuple #[.int .i64 0, .bool false]) (by simp [results, Tryz.results40, go_sem]) rfl ⟨rfl, S2.out.2⟩
    · have hz2 : z = a := hz
      subst hz2
      clear hz
      go_wp2_with fail
      exact bodyPost_ret (v := .tuple #[.int .i64 z, .bool true]) (by simp [results, Tryz.results40, go_sem]) rfl ⟨rfl, S2.out.2⟩
  · have hv : (decide (x.wd ≤ b - a) || (wb && (decide (b = x.t) && decide (L ≤ x.t - x.wd)))) = v := by rw [← HV.out, if_neg hs, HWB.out]
    have hz : z = if v then b - x.wd else 0 := by have := HZ.out; rwa [if_neg hs] at this
    have hsb : (x.s == 1) = false := by simp [hs]
    have HV2 := Lib.hid hv
    clear hv hs sd
    go_upto_region 8 with fail
    have hw2 := HW.out.2.1
    have hw4 := HW.out.2.2.2.1
    have hw5 := HW.out.2.2.2.2
    go_cut [92] (fun t wx => t = .bool v ∧ wx = w2)
    case first => as_aux_lemma =>
      obtain ⟨q, hq⟩ : ∃ q : Bool, (b == x.t) = q := ⟨_, rfl⟩
      have HQ := Lib.hid hq
      clear hq
      obtain ⟨r, hr⟩ : ∃ r : Bool, decide (x.wd ≤ b - a) = r := ⟨_, rfl⟩
      have HR := Lib.hid hr
      clear hr
      cases wb <;> cases q <;> cases r
      all_goals
        have hq := HQ.out
        have hr := HR.out
        simp only [decide_eq_true_eq, decide_eq_false_iff_not] at hr
        go_wp2_with fail
        go_meet
        exact ⟨congrArg Value.bool (by rw [← HV2.out, Bool.eq_iff_iff]; simp_all <;> omega), rfl⟩
    case rest =>
    obtain ⟨rfl, rfl⟩ := hcut
    cases v
    · have hz2 : z = 0 := hz
      subst hz2
      clear hz
      go_wp2_with fail
      exact bodyPost_ret (v := .tuple #[.int .i64 0, .bool false]) (by simp [results, Tryz.results40, go_sem]) rfl ⟨rfl, S2.out.2⟩
    · have hz2 : z = b - x.wd := hz
      subst hz2
      clear hz
      go_wp2_with fail
      exact bodyPost_ret (v := .tuple #[.int .i64 (b - x.wd), .bool true]) (by simp [results, Tryz.results40, go_sem]) rfl ⟨rfl, S2.out.2⟩

end Go.Proofs.YtdibdfalahjmbaaGreat.Place

namespace Go.Proofs.YtdibdfalahjmbaaGreat.Place

open Go.RowKit Go.Sort Go.Proofs.YtdibdfalahjmbaaGreat.Rect Go.Proofs.YtdibdfalahjmbaaGreat.More Go.Proofs.YtdibdfalahjmbaaGreat.Shelf Go.Proofs.YtdibdfalahjmbaaGreat.Space

set_option linter.unusedVariables false

set_option linter.unusedSimpArgs false

def Seeks (fs : List Fl) (x : Wt) (z : Int) : Prop := startQ fs x ≤ z ∧ z ≤ 562949953421312 ∧ ∀ q, startQ fs x ≤ q → q < z → okQ fs x q = false

theorem seeks_found {fs : List Fl} {x : Wt} {z : Int} (h : Seeks fs x z) (h49 : fs.all near49 = true) (hr : RightW x) (hok : okQ fs x z = true) : z = findY fs x ∧ atQ fs x z = findX fs x := by
  have hz : z = findY fs x := finds_one ⟨h.1, hok, h.2.2⟩ (find_is h49 hr)
  refine ⟨hz, ?_⟩
  unfold atQ
  rw [if_pos hok, hz, ← findX_is h49 hr]

theorem seeks_next {fs : List Fl} {x : Wt} {z : Int} (h : Seeks fs x z) (h49 : fs.all near49 = true) (hr : RightW x) (hok : okQ fs x z = false) : (nextF fs z).2 = true ∧ z < (nextF fs z).1 ∧ Seeks fs x (nextF fs z).1 := by
  have hl := nextF_least fs z
  unfold Least at hl
  cases hm : (nextF fs z).2 with
  | false =>
    exfalso
    rw [hm] at hl
    have hno := hl.2
    have : okQ fs x z = true := by
      rw [ok_flat h.1]
      refine ok_free hr (bnd_free fun f hf hc => ?_)
      have := hno f.b ⟨f, hf, hc, .inr rfl⟩
      omega
    rw [hok] at this
    cases this
  | true =>
    rw [hm] at hl
    obtain ⟨h1, ⟨f, hf, hc, hfe⟩, h3⟩ := hl
    refine ⟨rfl, h1, by have := h.1; omega, ?_, fun q q1 q2 => ?_⟩
    · have := (near49_all h49 f hf).t2
      have := (near49_all h49 f hf).b2
      omega
    · by_cases hqz : q < z
      · exact h.2.2 q q1 hqz
      · rw [ok_flat q1, ok_row (bnd_same (x := q) (y := z) (by omega) fun e he hze => by have := h3 e he hze; omega), ← ok_flat h.1]
        exact hok

abbrev Zero4 (w : World) (g : Nat) (T : TypeId) : Prop := w.heap[g]? = some (.cells #[.int .i64 0, .int .i64 0, .int .i64 0, .int .i64 0] T)

set_option maxRecDepth 100000 in
set_option maxHeartbeats 1000000 in
theorem reffind_any (A : Option Addr) (n c : Nat) (fs : List Fl) (x : Wt) (w : World) (hn : n = fs.length) (hlen : n ≤ 1000000) (hx : Floats w w.heap.size A fs) (h49 : fs.all near49 = true) (hr : RightW x) :
    Calls Tryz.prog 22 #[.slice A n c, x.v] w fun e w' => e = .returned (.agg #[.int .i64 (findX fs x), .int .i64 (findY fs x), .int .i64 (findX fs x + x.wd), .int .i64 (findY fs x + x.ht)]) ∧ Below w.heap.size w w' := by
  have HSt := Lib.hid (fun w1 (k : Below w.heap.size w w1) => refstart_any A n c fs x w1 hn hlen (hx.thru k))
  have HAt := Lib.hid (fun w1 z (k : Below w.heap.size w w1) (hz : -1125899906842624 ≤ z ∧ z ≤ 1125899906842624) => refat_any A n c fs x z w1 hn hlen (hx.thru k) h49 hr hz)
  have HNe := Lib.hid (fun w1 z (k : Below w.heap.size w w1) => refnext_any A n c fs z w1 hn hlen (hx.thru k))
  have hst := startQ_49 h49 hr
  have h0 : Seeks fs x (startQ fs x) := ⟨Int.le_refl _, hst.2, fun q q1 q2 => by omega⟩
  have hf := find_49 h49 hr
  have hfy := findY_49 h49 hr
  obtain ⟨f1, f2, t1, t2, wd1, wd2, ht1, ht2, y1, y2, sd, cl, ft⟩ := hr
  have hr : RightW x := ⟨f1, f2, t1, t2, wd1, wd2, ht1, ht2, y1, y2, sd, cl, ft⟩
  have hw1 : IntKind.i64.wrap (findX fs x + x.wd) = findX fs x + x.wd := IntWalk.i64_in _ (by omega)
  have hw2 : IntKind.i64.wrap (findY fs x + x.ht) = findY fs x + x.ht := IntWalk.i64_in _ (by omega)
  have HW := Lib.hid (⟨hw1, hw2⟩ : IntKind.i64.wrap (findX fs x + x.wd) = findX fs x + x.wd ∧ IntKind.i64.wrap (findY fs x + x.ht) = findY fs x + x.ht)
  have HFD := Lib.hid (fun z (h : Seeks fs x z) (hok : okQ fs x z = true) => seeks_found h h49 hr hok)
  have HNX := Lib.hid (fun z (h : Seeks fs x z) (hok : okQ fs x z = false) => seeks_next h h49 hr hok)
  have H0 := Lib.hid (⟨h0, hst.1⟩ : Seeks fs x (startQ fs x) ∧ -562949953421312 ≤ startQ fs x)
  generalize startQ fs x = st at HSt H0
  generalize findX fs x = fx at *
  generalize findY fs x = fy at *
  clear hn hx h49 hr hst h0 hf hfy f1 f2 t1 t2 wd1 wd2 ht1 ht2 y1 y2 sd cl ft hw1 hw2
  go_enter Tryz.func22, Tryz.ntmps22
  go_upto_region 1 with fail
  generalize hW1 : World.alloc w _ = W1
  obtain ⟨b0, hb0⟩ : ∃ b0, w.heap.size = b0 := ⟨_, rfl⟩
  have k1 : Below w.heap.size w W1 := by rw [← hW1]; exact ba1 _ _
  have a1 : AtW W1 b0 x := by rw [← hW1, ← hb0]; exact atW_boxed _ _ _
  have hs1 : W1.heap.size = b0 + 1 := by rw [← hW1, ← hb0]; simp
  clear hW1
  generalize hW2 : World.alloc W1 _ = W2
  have k2 : Below W1.heap.size W1 W2 := by rw [← hW2]; exact ba1 _ _
  have hs2 : W2.heap.size = b0 + 1 + 1 := by rw [← hW2, ← hs1]; simp
  have z2 : Zero4 W2 (b0 + 1) 44 := by rw [← hW2, ← hs1]; exact heap_alloc_new W1 _
  have S2 := Lib.hid (⟨a1.below k2, z2, thru k1 k2, by omega⟩ : AtW W2 b0 x ∧ Zero4 W2 (b0 + 1) 44 ∧ Below w.heap.size w W2 ∧ w.heap.size ≤ b0 + 1)
  rw [hb0]
  clear hW2 k1 a1 hs1 k2 hs2 z2 hb0
  obtain ⟨b1, hb1⟩ : ∃ b1, b0 + 1 = b1 := ⟨_, rfl⟩
  rw [hb1] at S2
  rw [hb1]
  clear hb1
  obtain ⟨c0, c1, c2, c3, c4, c5, c6⟩ := S2.out.1
  go_wp2_with (first
    | (go_at_call 39; refine (HSt.out _ S2.out.2.2.1).mono ?_; rintro e w3 ⟨rfl, k3⟩; have S3 := Lib.hid (⟨S2.out.1.below k3, (show Zero4 w3 b1 44 from (k3.block b1 (lt_of_block S2.out.2.1)).trans S2.out.2.1), thru S2.out.2.2.1 k3⟩ : AtW w3 b0 x ∧ Zero4 w3 b1 44 ∧ Below w.heap.size w w3); clear k3))
  clear c0 c1 c2 c3 c4 c5 c6
  go_loopw [5] (fun i wr => ∃ z : Int, i = .int .i64 z ∧ Hid (Seeks fs x z ∧ -562949953421312 ≤ z ∧ AtW wr b0 x ∧ Zero4 wr b1 44 ∧ Below w.heap.size w wr)) (fun i _ => (562949953421312 - intOf i).toNat)
  case atStart => exact ⟨st, rfl, Lib.hid ⟨H0.out.1, H0.out.2, S3.out⟩⟩
  case round =>
    obtain ⟨z, rfl, H⟩ := hrel
    obtain ⟨c0, c1, c2, c3, c4, c5, c6⟩ := H.out.2.2.1
    have hzr : -1125899906842624 ≤ z ∧ z ≤ 1125899906842624 := by have := H.out.1.2.1; have := H.out.2.1; omega
    have HA := Lib.hid (HAt.out _ z H.out.2.2.2.2 hzr)
    have HN := Lib.hid (fun w1 k => HNe.out w1 z k)
    have hfd := HFD.out z H.out.1
    have hnx := HNX.out z H.out.1
    clear hzr
    generalize hat : atQ fs x z = at' at HA hfd
    cases hok : okQ fs x z with
    | true =>
      obtain ⟨e1, e2⟩ := hfd hok
      rw [hok] at HA
      subst e1
      subst e2
      obtain ⟨hw1, hw2⟩ := HW.out
      clear hfd hnx hat HFD
      go_upto_region 4 with (first
        | (go_at_call 40; refine HA.out.mono ?_; rintro e w4 ⟨rfl, k4⟩; have S4 := Lib.hid (⟨H.out.2.2.1.below k4, (show Zero4 w4 b1 44 from (k4.block b1 (lt_of_block H.out.2.2.2.1)).trans H.out.2.2.2.1), thru H.out.2.2.2.2 k4⟩ : AtW w4 b0 x ∧ Zero4 w4 b1 44 ∧ Below w.heap.size w w4); clear k4))
      clear c0 c1 c2 c3 c4 c5 c6
      obtain ⟨c0, c1, c2, c3, c4, c5, c6⟩ := S4.out.1
      obtain ⟨r0, r1, r2, r3⟩ := R4.of_block S4.out.2.1
      obtain ⟨q0, q1, q2, q3⟩ := free4 S4.out.2.1
      go_wp2_with fail
      have hb := S2.out.2.2.2
      exact bodyPost_ret (v := .agg #[.int .i64 at', .int .i64 z, .int .i64 (at' + x.wd), .int .i64 (z + x.ht)]) (by simp [results, Tryz.results22, go_sem, r0, r1, r2, r3]) rfl ⟨rfl, ((((S4.out.2.2.setCell (p := ⟨b1, 0, none⟩) hb _).setCell (p := ⟨b1, 1, none⟩) hb _).setCell (p := ⟨b1, 2, none⟩) hb _).setCell (p := ⟨b1, 3, none⟩) hb _)⟩
    | false =>
      obtain ⟨e1, e2, e3⟩ := hnx hok
      rw [hok] at HA
      generalize hnf : nextF fs z = nf at e1 e2 e3 HN
      obtain ⟨z', m'⟩ := nf
      obtain rfl : m' = true := e1
      clear hfd hnx hat hnf
      have HE := Lib.hid (⟨e2, e3⟩ : z < z' ∧ Seeks fs x z')
      clear e2 e3
      go_wp2_with (first
        | (go_at_call 40; refine HA.out.mono ?_; rintro e w4 ⟨rfl, k4⟩; have S4 := Lib.hid (⟨H.out.2.2.1.below k4, (show Zero4 w4 b1 44 from (k4.block b1 (lt_of_block H.out.2.2.2.1)).trans H.out.2.2.2.1), thru H.out.2.2.2.2 k4⟩ : AtW w4 b0 x ∧ Zero4 w4 b1 44 ∧ Below w.heap.size w w4); clear k4)
        | (go_at_call 36; refine (HN.out _ S4.out.2.2).mono ?_; rintro e w5 ⟨rfl, k5⟩; have S5 := Lib.hid (⟨S4.out.1.below k5, (show Zero4 w5 b1 44 from (k5.block b1 (lt_of_block S4.out.2.1)).trans S4.out.2.1), thru S4.out.2.2 k5⟩ : AtW w5 b0 x ∧ Zero4 w5 b1 44 ∧ Below w.heap.size w w5); clear k5))
      go_roundw
      case rel => exact ⟨z', rfl, Lib.hid ⟨HE.out.2, by have := HE.out.1; have := H.out.2.1; omega, S5.out⟩⟩
      case measure =>
        have := HE.out.1
        have := HE.out.2.2.1
        have := H.out.1.2.1
        simp [intOf]
        omega

end Go.Proofs.YtdibdfalahjmbaaGreat.Place
