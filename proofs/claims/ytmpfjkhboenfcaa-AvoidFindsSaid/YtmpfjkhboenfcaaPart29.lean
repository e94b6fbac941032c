/- Texts of this proof that follow each other, in one file. -/
import Derived.Test.YtmpfjkhboenfcaaPart14
import Derived.Test.YtmpfjkhboenfcaaPart7
import Derived.Deep.DeepCutAuto
/-! The contract of the document's look: may a box stand at a height. -/
namespace Go.Proofs.Ytmpfjkhboenfcaa.Avoid
open Go.RowKit Go.Sort Go.Proofs.Ytmpfjkhboenfcaa.Rect Go.Proofs.Ytmpfjkhboenfcaa.More Go.Proofs.Ytmpfjkhboenfcaa.Shelf Go.Proofs.Ytmpfjkhboenfcaa.Space Go.Proofs.Ytmpfjkhboenfcaa.Place
set_option linter.unusedVariables false
set_option linter.unusedSimpArgs false

set_option maxRecDepth 100000 in
set_option maxHeartbeats 1000000 in
theorem vrefat_any (A : Option Addr) (n c : Nat) (fs : List Fl) (x : Vt) (y : Int) (w : World) (hn : n = fs.length) (hlen : n ≤ 1000000) (hx : Floats w w.heap.size A fs) (h49 : fs.all near49 = true) (hr : RightV x) (hy : -1125899906842624 ≤ y ∧ y ≤ 1125899906842624) :
    Calls Try.prog 14 #[.slice A n c, x.v, .int .i64 y] w fun e w' => e = .returned (.tuple #[.int .i64 (atV fs x y), .bool (okV fs x y)]) ∧ Below w.heap.size w w' := by
  have hht : x.ht ≤ 2305843009213693952 := by have := hr.ht2; omega
  have HBo := Lib.hid (fun w1 (k : Below w.heap.size w w1) => refrows_any A n c fs y x.ht w1 hn hlen (hx.thru k) ⟨by omega, by omega⟩ hht)
  have HFr := Lib.hid (fun w1 (k : Below w.heap.size w w1) => reffree_any A n c fs x.f x.t y x.ht w1 hn hlen (hx.thru k) ⟨by omega, by omega⟩ hht)
  obtain ⟨L1, L2⟩ := bandL_49 h49 y (y + highZ x.ht)
  obtain ⟨R1, R2⟩ := bandR_49 h49 y (y + highZ x.ht)
  obtain ⟨v, hv⟩ : ∃ v, okV fs x y = v := ⟨_, rfl⟩
  have hz : atV fs x y = if v then edgeV fs x y else 0 := by unfold atV; rw [hv]
  obtain ⟨z, hzz⟩ : ∃ z, atV fs x y = z := ⟨_, rfl⟩
  rw [hv, hzz]
  rw [hzz] at hz
  unfold okV at hv
  unfold edgeV at hz
  generalize bandL fs y (y + highZ x.ht) = L at *
  generalize bandR fs y (y + highZ x.ht) = R at *
  unfold okB at hv
  obtain ⟨a, ha⟩ : ∃ a, max x.f L = a := ⟨_, rfl⟩
  obtain ⟨b, hb⟩ : ∃ b, min x.t R = b := ⟨_, rfl⟩
  rw [ha, hb] at HFr
  rw [ha, hb] at hv
  rw [ha] at hz
  obtain ⟨f1, f2, t1, t2, wd1, wd2, ht1, ht2, y1, y2⟩ := hr
  have hw1 : IntKind.i64.wrap (x.t - x.f) = x.t - x.f := IntWalk.i64_in _ (by omega)
  have hw2 : IntKind.i64.wrap (b - a) = b - a := IntWalk.i64_in _ (by omega)
  have hw3 : IntKind.i64.wrap (x.f + x.wd) = x.f + x.wd := IntWalk.i64_in _ (by omega)
  have HV := Lib.hid hv
  have HZ := Lib.hid hz
  have HW := Lib.hid (⟨hw1, hw3⟩ : IntKind.i64.wrap (x.t - x.f) = x.t - x.f ∧ IntKind.i64.wrap (x.f + x.wd) = x.f + x.wd)
  clear hn hx h49 hy hht L1 L2 R1 R2 hv hz hzz ha hb f1 f2 t1 t2 wd1 wd2 ht1 ht2 y1 y2 hw1 hw3
  go_enter Try.func14, Try.ntmps14
  go_upto_region 1 with fail
  generalize hW : World.alloc w _ = W
  obtain ⟨b0, hb0⟩ : ∃ b0, w.heap.size = b0 := ⟨_, rfl⟩
  have KW := Lib.hid (show Below w.heap.size w W by rw [← hW]; exact ba1 _ _)
  have AW := Lib.hid (show AtV W b0 x by rw [← hW, ← hb0]; exact atV_boxed _ _ _)
  rw [hb0]
  clear hW hb0
  obtain ⟨c0, c1, c2, c3, c4⟩ := AW.out
  go_upto_region 3 with (first
    | (go_at_call 29; refine (HBo.out _ KW.out).mono ?_; rintro e w1 ⟨rfl, k1⟩; have S1 := Lib.hid (⟨AW.out.below k1, thru KW.out k1⟩ : AtV w1 b0 x ∧ Below w.heap.size w w1); obtain ⟨d0, d1, d2, d3, d4⟩ := S1.out.1; clear k1)
    | (go_at_call 30; refine (HFr.out _ S1.out.2).mono ?_; rintro e w2 ⟨rfl, k2⟩; have S2 := Lib.hid (⟨S1.out.1.below k2, thru S1.out.2 k2⟩ : AtV w2 b0 x ∧ Below w.heap.size w w2); clear k2))
  clear c0 c1 c2 c3 c4 d0 d1 d2 d3 d4
  obtain ⟨c0, c1, c2, c3, c4⟩ := S2.out.1
  by_cases hr : x.wd ≤ b - a
  · have hvt : v = true := by rw [← HV.out, decide_eq_true hr]; rfl
    subst hvt
    have hza : z = a := HZ.out
    subst hza
    go_wp2_with fail
    exact bodyPost_ret (v := .tuple #[.int .i64 z, .bool true]) (by simp [results, Try.results14, go_sem]) rfl ⟨rfl, S2.out.2⟩
  · have hv : (decide (x.t - x.f < x.wd) && decide (L ≤ x.f) && decide (x.f + x.wd ≤ R)) = v := by rw [← HV.out, decide_eq_false hr]; rfl
    have HV2 := Lib.hid hv
    clear hv
    go_upto_region 5 with fail
    clear hr hw2
    obtain ⟨hw1, hw3⟩ := HW.out
    go_cut [61] (fun t wx => t = .bool v ∧ wx = w2)
    case first => as_aux_lemma =>
      go_wp2_with fail
      all_goals (go_meet; exact ⟨congrArg Value.bool (by rw [← HV2.out, Bool.eq_iff_iff]; simp_all <;> omega), rfl⟩)
    case rest =>
    obtain ⟨rfl, rfl⟩ := hcut
    cases v
    · have hz2 : z = 0 := HZ.out
      subst hz2
      go_wp2_with fail
      exact bodyPost_ret (v := .tuple #[.int .i64 0, .bool false]) (by simp [results, Try.results14, go_sem]) rfl ⟨rfl, S2.out.2⟩
    · have hz2 : z = a := HZ.out
      subst hz2
      go_wp2_with fail
      exact bodyPost_ret (v := .tuple #[.int .i64 z, .bool true]) (by simp [results, Try.results14, go_sem]) rfl ⟨rfl, S2.out.2⟩

end Go.Proofs.Ytmpfjkhboenfcaa.Avoid

/-! The contract of the document's answer: where a box stands. -/
namespace Go.Proofs.Ytmpfjkhboenfcaa.Avoid
open Go.RowKit Go.Sort Go.Proofs.Ytmpfjkhboenfcaa.Rect Go.Proofs.Ytmpfjkhboenfcaa.More Go.Proofs.Ytmpfjkhboenfcaa.Shelf Go.Proofs.Ytmpfjkhboenfcaa.Space Go.Proofs.Ytmpfjkhboenfcaa.Place
set_option linter.unusedVariables false
set_option linter.unusedSimpArgs false

/-- A block of four zeros. -/
abbrev ZeroV4 (w : World) (g : Nat) (T : TypeId) : Prop := w.heap[g]? = some (.cells #[.int .i64 0, .int .i64 0, .int .i64 0, .int .i64 0] T)

set_option maxRecDepth 100000 in
set_option maxHeartbeats 1000000 in
theorem vreffind_any (A : Option Addr) (n c : Nat) (fs : List Fl) (x : Vt) (w : World) (hn : n = fs.length) (hlen : n ≤ 1000000) (hx : Floats w w.heap.size A fs) (h49 : fs.all near49 = true) (hr : RightV x) :
    Calls Try.prog 17 #[.slice A n c, x.v] w fun e w' => e = .returned (.agg #[.int .i64 (findVX fs x), .int .i64 (findVY fs x), .int .i64 (findVX fs x + x.wd), .int .i64 (findVY fs x + x.ht)]) ∧ Below w.heap.size w w' := by
  have HAt := Lib.hid (fun w1 z (k : Below w.heap.size w w1) (hz : -1125899906842624 ≤ z ∧ z ≤ 1125899906842624) => vrefat_any A n c fs x z w1 hn hlen (hx.thru k) h49 hr hz)
  have HNe := Lib.hid (fun w1 z (k : Below w.heap.size w w1) => refnext_any A n c fs z w1 hn hlen (hx.thru k))
  have h0 : SeeksV fs x x.y := ⟨Int.le_refl _, by have := hr.y2; omega, fun q q1 q2 => by omega⟩
  have hf := findV_49 h49 hr
  have hfy := findVY_49 h49 hr
  obtain ⟨f1, f2, t1, t2, wd1, wd2, ht1, ht2, y1, y2⟩ := hr
  have hr : RightV x := ⟨f1, f2, t1, t2, wd1, wd2, ht1, ht2, y1, y2⟩
  have hw1 : IntKind.i64.wrap (findVX fs x + x.wd) = findVX fs x + x.wd := IntWalk.i64_in _ (by omega)
  have hw2 : IntKind.i64.wrap (findVY fs x + x.ht) = findVY fs x + x.ht := IntWalk.i64_in _ (by omega)
  have HW := Lib.hid (⟨hw1, hw2⟩ : IntKind.i64.wrap (findVX fs x + x.wd) = findVX fs x + x.wd ∧ IntKind.i64.wrap (findVY fs x + x.ht) = findVY fs x + x.ht)
  have HFD := Lib.hid (fun z (h : SeeksV fs x z) (hok : okV fs x z = true) => seeksV_found h h49 hr hok)
  have HNX := Lib.hid (fun z (h : SeeksV fs x z) (hok : okV fs x z = false) => seeksV_next h h49 hr hok)
  have H0 := Lib.hid (⟨h0, by omega⟩ : SeeksV fs x x.y ∧ -562949953421312 ≤ x.y)
  generalize findVX fs x = fx at *
  generalize findVY fs x = fy at *
  clear hn hx h49 hr h0 hf hfy f1 f2 t1 t2 wd1 wd2 ht1 ht2 y1 y2 hw1 hw2
  go_enter Try.func17, Try.ntmps17
  go_upto_region 1 with fail
  generalize hW1 : World.alloc w _ = W1
  obtain ⟨b0, hb0⟩ : ∃ b0, w.heap.size = b0 := ⟨_, rfl⟩
  have k1 : Below w.heap.size w W1 := by rw [← hW1]; exact ba1 _ _
  have a1 : AtV W1 b0 x := by rw [← hW1, ← hb0]; exact atV_boxed _ _ _
  have hs1 : W1.heap.size = b0 + 1 := by rw [← hW1, ← hb0]; simp
  clear hW1
  generalize hW2 : World.alloc W1 _ = W2
  have k2 : Below W1.heap.size W1 W2 := by rw [← hW2]; exact ba1 _ _
  have hs2 : W2.heap.size = b0 + 1 + 1 := by rw [← hW2, ← hs1]; simp
  have z2 : ZeroV4 W2 (b0 + 1) 42 := by rw [← hW2, ← hs1]; exact heap_alloc_new W1 _
  have S2 := Lib.hid (⟨a1.below k2, z2, thru k1 k2, by omega⟩ : AtV W2 b0 x ∧ ZeroV4 W2 (b0 + 1) 42 ∧ Below w.heap.size w W2 ∧ w.heap.size ≤ b0 + 1)
  rw [hb0]
  clear hW2 k1 a1 hs1 k2 hs2 z2 hb0
  obtain ⟨b1, hb1⟩ : ∃ b1, b0 + 1 = b1 := ⟨_, rfl⟩
  rw [hb1] at S2
  rw [hb1]
  clear hb1
  obtain ⟨c0, c1, c2, c3, c4⟩ := S2.out.1
  go_wp2_with fail
  clear c0 c1 c2 c3 c4
  go_loopw [5] (fun i wr => ∃ z : Int, i = .int .i64 z ∧ Hid (SeeksV fs x z ∧ -562949953421312 ≤ z ∧ AtV wr b0 x ∧ ZeroV4 wr b1 42 ∧ Below w.heap.size w wr)) (fun i _ => (562949953421312 - intOf i).toNat)
  case atStart => exact ⟨x.y, rfl, Lib.hid ⟨H0.out.1, H0.out.2, S2.out.1, S2.out.2.1, S2.out.2.2.1⟩⟩
  case round =>
    obtain ⟨z, rfl, H⟩ := hrel
    obtain ⟨c0, c1, c2, c3, c4⟩ := H.out.2.2.1
    have hzr : -1125899906842624 ≤ z ∧ z ≤ 1125899906842624 := by have := H.out.1.2.1; have := H.out.2.1; omega
    have HA := Lib.hid (HAt.out _ z H.out.2.2.2.2 hzr)
    have HN := Lib.hid (fun w1 k => HNe.out w1 z k)
    have hfd := HFD.out z H.out.1
    have hnx := HNX.out z H.out.1
    clear hzr
    generalize hat : atV fs x z = at' at HA hfd
    cases hok : okV fs x z with
    | true =>
      obtain ⟨e1, e2⟩ := hfd hok
      rw [hok] at HA
      subst e1
      subst e2
      obtain ⟨hw1, hw2⟩ := HW.out
      clear hfd hnx hat HFD
      go_upto_region 4 with (first
        | (go_at_call 14; refine HA.out.mono ?_; rintro e w4 ⟨rfl, k4⟩; have S4 := Lib.hid (⟨H.out.2.2.1.below k4, (show ZeroV4 w4 b1 42 from (k4.block b1 (lt_of_block H.out.2.2.2.1)).trans H.out.2.2.2.1), thru H.out.2.2.2.2 k4⟩ : AtV w4 b0 x ∧ ZeroV4 w4 b1 42 ∧ Below w.heap.size w w4); clear k4))
      clear c0 c1 c2 c3 c4
      obtain ⟨c0, c1, c2, c3, c4⟩ := S4.out.1
      obtain ⟨r0, r1, r2, r3⟩ := R4.of_block S4.out.2.1
      obtain ⟨q0, q1, q2, q3⟩ := free4 S4.out.2.1
      go_wp2_with fail
      have hb := S2.out.2.2.2
      exact bodyPost_ret (v := .agg #[.int .i64 at', .int .i64 z, .int .i64 (at' + x.wd), .int .i64 (z + x.ht)]) (by simp [results, Try.results17, go_sem, r0, r1, r2, r3]) rfl ⟨rfl, ((((S4.out.2.2.setCell (p := ⟨b1, 0, none⟩) hb _).setCell (p := ⟨b1, 1, none⟩) hb _).setCell (p := ⟨b1, 2, none⟩) hb _).setCell (p := ⟨b1, 3, none⟩) hb _)⟩
    | false =>
      obtain ⟨e1, e2, e3⟩ := hnx hok
      rw [hok] at HA
      generalize hnf : nextF fs z = nf at e1 e2 e3 HN
      obtain ⟨z', m'⟩ := nf
      obtain rfl : m' = true := e1
      clear hfd hnx hat hnf
      have HE := Lib.hid (⟨e2, e3⟩ : z < z' ∧ SeeksV fs x z')
      clear e2 e3
      go_wp2_with (first
        | (go_at_call 14; refine HA.out.mono ?_; rintro e w4 ⟨rfl, k4⟩; have S4 := Lib.hid (⟨H.out.2.2.1.below k4, (show ZeroV4 w4 b1 42 from (k4.block b1 (lt_of_block H.out.2.2.2.1)).trans H.out.2.2.2.1), thru H.out.2.2.2.2 k4⟩ : AtV w4 b0 x ∧ ZeroV4 w4 b1 42 ∧ Below w.heap.size w w4); clear k4)
        | (go_at_call 34; refine (HN.out _ S4.out.2.2).mono ?_; rintro e w5 ⟨rfl, k5⟩; have S5 := Lib.hid (⟨S4.out.1.below k5, (show ZeroV4 w5 b1 42 from (k5.block b1 (lt_of_block S4.out.2.1)).trans S4.out.2.1), thru S4.out.2.2 k5⟩ : AtV w5 b0 x ∧ ZeroV4 w5 b1 42 ∧ Below w.heap.size w w5); clear k5))
      go_roundw
      case rel => exact ⟨z', rfl, Lib.hid ⟨HE.out.2, by have := HE.out.1; have := H.out.2.1; omega, S5.out⟩⟩
      case measure =>
        have := HE.out.1
        have := HE.out.2.2.1
        have := H.out.1.2.1
        simp [intOf]
        omega

end Go.Proofs.Ytmpfjkhboenfcaa.Avoid
