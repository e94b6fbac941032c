/- The program's own: where a box may stand. -/
import Derived.Test.YtmpfjkhboenfcaaPart25
import Derived.Test.YtmpfjkhboenfcaaPart13
import Derived.Test.YtmpfjkhboenfcaaPart6
namespace Go.Proofs.Ytmpfjkhboenfcaa.Avoid
open Go.RowKit Go.Sort Go.Proofs.Ytmpfjkhboenfcaa.Rect Go.Proofs.Ytmpfjkhboenfcaa.More Go.Proofs.Ytmpfjkhboenfcaa.Shelf Go.Proofs.Ytmpfjkhboenfcaa.Space Go.Proofs.Ytmpfjkhboenfcaa.Place
set_option linter.unusedVariables false
set_option linter.unusedSimpArgs false

set_option maxHeartbeats 400000 in
theorem vlen_is (a b d : Int) (hd : IntKind.i64.wrap (b - a) = d) (w : World) :
    Calls Try.prog 27 #[.agg #[.int .i64 a, .int .i64 b]] w fun e w' => e = .returned (.int .i64 d) ∧ Below w.heap.size w w' := by
  go_enter Try.func27, Try.ntmps27
  go_wp2_with fail
  go_ret
  exact ⟨rfl, ba1 _ _⟩

theorem vclip_is (a b c d p q : Int) (hp : max a c = p) (hq : min b d = q) (w : World) :
    Calls Try.prog 26 #[.agg #[.int .i64 a, .int .i64 b], .agg #[.int .i64 c, .int .i64 d]] w fun e w' => e = .returned (.agg #[.int .i64 p, .int .i64 q]) ∧ Below w.heap.size w w' := by
  subst hp hq
  exact clip_any a b c d w

def R2 (w : World) (g : Nat) (x0 x1 : Int) : Prop := w.cell? ⟨g, 0, none⟩ = some (.int .i64 x0) ∧ w.cell? ⟨g, 1, none⟩ = some (.int .i64 x1)
theorem R2.of_block {w : World} {g : Nat} {x0 x1 : Int} {T : TypeId} (h : w.heap[g]? = some (.cells #[.int .i64 x0, .int .i64 x1] T)) : R2 w g x0 x1 := by
  refine ⟨?_, ?_⟩ <;> simp [World.cell?, h]
theorem R2.below {w w' : World} {g : Nat} {x0 x1 : Int} (h : R2 w g x0 x1) (k : Below w.heap.size w w') : R2 w' g x0 x1 := by
  have hg : g < w.heap.size := block_lt_of_cell h.1
  exact ⟨by rw [k.cell (p := ⟨g, 0, none⟩) hg]; exact h.1, by rw [k.cell (p := ⟨g, 1, none⟩) hg]; exact h.2⟩

set_option maxHeartbeats 400000 in
theorem vunt_any (x : Vt) (L R : Int) (v : Bool) (hw : IntKind.i64.wrap (x.f + x.wd) = x.f + x.wd) (hv : (decide (L ≤ x.f) && decide (x.f + x.wd ≤ R)) = v) (w : World) :
    Calls Try.prog 28 #[x.v, .agg #[.int .i64 L, .int .i64 R]] w fun e w' => e = .returned (.bool v) ∧ Below w.heap.size w w' := by
  by_cases h : L ≤ x.f
  · rw [decide_eq_true h, Bool.true_and] at hv
    subst hv
    go_enter Try.func28, Try.ntmps28
    go_wp2_with fail
    go_ret
    exact ⟨rfl, ba2 _ _ _⟩
  · rw [decide_eq_false h, Bool.false_and] at hv
    subst hv
    go_enter Try.func28, Try.ntmps28
    go_wp2_with fail
    go_ret
    exact ⟨rfl, ba2 _ _ _⟩

section
variable {S : World → (Nat → Prop) → Addr → List Fl → Prop}

set_option maxRecDepth 100000 in
set_option maxHeartbeats 2000000 in
theorem vat_any (hO : SpaceOk S) (w : World) (F : Nat → Prop) (p : Addr) (fs : List Fl) (x : Vt) (y : Int) (h : S w F p fs) (h49 : fs.all near49 = true) (hr : RightV x) (hy : -4503599627370496 ≤ y ∧ y ≤ 4503599627370496) :
    Calls Try.prog 12 #[.pointer (some p), x.v, .int .i64 y] w fun e w' => e = .returned (.tuple #[.int .i64 (atV fs x y), .bool (okV fs x y)]) ∧ Below w.heap.size w w' := by
  have hht : x.ht ≤ 2305843009213693952 := by have := hr.ht2; omega
  have HRo := Lib.hid (fun w1 => hO.rows y x.ht w1 ⟨by omega, by omega⟩ hht)
  have hhz : highZ x.ht ≤ 2305843009213693952 := by unfold highZ; split <;> omega
  have HBo := Lib.hid (fun w1 (k : S w1 F p fs) => hO.bounds w1 F p fs y (y + highZ x.ht) k (near49_near h49) (by omega) (by omega))
  obtain ⟨L1, L2⟩ := bandL_49 h49 y (y + highZ x.ht)
  obtain ⟨R1, R2'⟩ := bandR_49 h49 y (y + highZ x.ht)
  obtain ⟨v, hv⟩ : ∃ v, okV fs x y = v := ⟨_, rfl⟩
  have hz : atV fs x y = if v then edgeV fs x y else 0 := by unfold atV; rw [hv]
  obtain ⟨z, hzz⟩ : ∃ z, atV fs x y = z := ⟨_, rfl⟩
  rw [hv, hzz]
  rw [hzz] at hz
  unfold okV at hv
  unfold edgeV at hz
  generalize y + highZ x.ht = yh at *
  generalize bandL fs y yh = L at *
  generalize bandR fs y yh = R at *
  rw [← okB_unt] at hv
  obtain ⟨a, ha⟩ : ∃ a, max x.f L = a := ⟨_, rfl⟩
  obtain ⟨b, hb⟩ : ∃ b, min x.t R = b := ⟨_, rfl⟩
  have HCl := Lib.hid (fun w => vclip_is x.f x.t L R a b ha hb w)
  rw [ha, hb] at hv
  rw [ha] at hz
  obtain ⟨f1, f2, t1, t2, wd1, wd2, ht1, ht2, y1, y2⟩ := hr
  obtain ⟨d, hd⟩ : ∃ d, b - a = d := ⟨_, rfl⟩
  have HLd := Lib.hid (fun w => vlen_is a b d (by rw [IntWalk.i64_in _ (by omega)]; exact hd) w)
  rw [hd] at hv
  obtain ⟨u, hu⟩ : ∃ u, (decide (L ≤ x.f) && decide (x.f + x.wd ≤ R)) = u := ⟨_, rfl⟩
  rw [hu] at hv
  have HUn := Lib.hid (fun w => vunt_any x L R u (IntWalk.i64_in _ (by omega)) hu w)
  have HZ := Lib.hid hz
  have HV := Lib.hid hv
  have HS0 := Lib.hid h
  clear h h49 hy hht hhz L1 L2 R1 R2' hv hz hzz ha hb hd hu f1 f2 t1 t2 wd1 wd2 ht1 ht2 y1 y2
  go_enter Try.func12, Try.ntmps12
  go_upto_region 1 with fail
  generalize hW1 : World.alloc w _ = W
  obtain ⟨b0, hb0⟩ : ∃ b0, w.heap.size = b0 := ⟨_, rfl⟩
  have KW := Lib.hid (show Below w.heap.size w W by rw [← hW1]; exact ba1 _ _)
  have AW := Lib.hid (show AtV W b0 x by rw [← hW1, ← hb0]; exact atV_boxed _ _ _)
  rw [hb0]
  clear hW1 hb0
  obtain ⟨c0, c1, c2, c3, c4⟩ := AW.out
  go_upto_region 2 with (first
    | (go_at_call 25; refine (HRo.out _).mono ?_; rintro e w1 ⟨rfl, k1⟩; have K1 := Lib.hid k1; clear k1)
    | (go_at_call 24; refine (HBo.out _ (thruS hO (thruS hO HS0.out KW.out) K1.out)).mono ?_; rintro e w2 ⟨rfl, k2⟩; have S2 := Lib.hid (⟨thru KW.out (thru K1.out k2), AW.out.below (thru K1.out k2)⟩ : Below w.heap.size w w2 ∧ AtV w2 b0 x); clear k2))
  clear c0 c1 c2 c3 c4
  generalize hW2 : World.alloc w2 _ = W2
  obtain ⟨b1, hb1⟩ : ∃ b1, w2.heap.size = b1 := ⟨_, rfl⟩
  have k3 : Below w2.heap.size w2 W2 := by rw [← hW2]; exact ba1 _ _
  have q3 : R2 W2 b1 L R := by rw [← hW2, ← hb1]; exact R2.of_block (heap_alloc_new w2 _)
  have S3 := Lib.hid (⟨thru S2.out.1 k3, S2.out.2.below k3, q3⟩ : Below w.heap.size w W2 ∧ AtV W2 b0 x ∧ R2 W2 b1 L R)
  rw [hb1]
  clear hW2 hb1 k3 q3 S2 K1
  obtain ⟨c0, c1, c2, c3, c4⟩ := S3.out.2.1
  obtain ⟨r0, r1⟩ := S3.out.2.2
  go_upto_region 3 with (first
    | (go_at_call 26; refine (HCl.out _).mono ?_; rintro e w3 ⟨rfl, k4⟩; have S4 := Lib.hid (⟨thru S3.out.1 k4, S3.out.2.1.below k4, S3.out.2.2.below k4⟩ : Below w.heap.size w w3 ∧ AtV w3 b0 x ∧ R2 w3 b1 L R); clear k4))
  clear c0 c1 c2 c3 c4 r0 r1
  generalize hW3 : World.alloc w3 _ = W3
  obtain ⟨b2, hb2⟩ : ∃ b2, w3.heap.size = b2 := ⟨_, rfl⟩
  have k5 : Below w3.heap.size w3 W3 := by rw [← hW3]; exact ba1 _ _
  have q5 : R2 W3 b2 a b := by rw [← hW3, ← hb2]; exact R2.of_block (heap_alloc_new w3 _)
  have S5 := Lib.hid (⟨thru S4.out.1 k5, S4.out.2.1.below k5, S4.out.2.2.below k5, q5⟩ : Below w.heap.size w W3 ∧ AtV W3 b0 x ∧ R2 W3 b1 L R ∧ R2 W3 b2 a b)
  rw [hb2]
  clear hW3 hb2 k5 q5 S3 S4
  have HA := Lib.hid (fun w' (j : Below W3.heap.size W3 w') => S5.out.2.1.below j)
  have HQ := Lib.hid (fun w' (j : Below W3.heap.size W3 w') => (⟨S5.out.2.2.1.below j, S5.out.2.2.2.below j⟩ : R2 w' b1 L R ∧ R2 w' b2 a b))
  have K3 := Lib.hid S5.out.1
  by_cases h1 : x.wd ≤ d
  · have H1 := Lib.hid h1
    have hvt : v = true := by rw [← HV.out, decide_eq_true h1]; rfl
    subst hvt
    obtain rfl : a = z := HZ.out.symm
    clear h1 HV HZ
    refine HoldAll.wp_region_hold_all [.val (.pointer (some ⟨b0, 2, none⟩)), .val (.int .i64 x.wd), .val (.agg #[.int .i64 a, .int .i64 b]), .val (.int .i64 d), .val (.bool true), .val (.bool true), .skip, .skip, .skip, .val (.bool true)] (by kernel_rfl) (by kernel_rfl) (by kernel_rfl) ?_ ?_
    · simp only [Hold.fill, Hold.Leave.value]
      refine ⟨?_, ?_, ?_, ?_, ?_, ?_, trivial, trivial, trivial, ?_, trivial⟩
      · intro gg w' hw hk
        go_simp
        exact ⟨rfl, rfl⟩
      · intro gg w' hw hk
        have q := (HA.out w' hw).2.2.1
        go_simp
        exact ⟨rfl, rfl⟩
      · intro gg w' hw hk
        have q0 := (HQ.out w' hw).2.1
        have q1 := (HQ.out w' hw).2.2
        go_simp
        exact ⟨rfl, rfl⟩
      · intro gg w' hw hk
        go_simp
        exact Hold.stays_call (HLd.out w')
      · intro gg w' hw hk
        have q := H1.out
        go_simp
        exact ⟨rfl, rfl⟩
      · intro gg w' hw hk
        go_simp
        exact ⟨rfl, rfl⟩
      · intro gg w' hw hk
        go_simp
        exact ⟨rfl, rfl⟩
    intro gg w4 k4 hgg
    clear hgg
    simp only [Hold.fill, Hold.Leave.value]
    go_simp
    obtain ⟨r0, r1⟩ := (HQ.out _ k4).2
    go_wp2_with fail
    exact bodyPost_ret (v := .tuple #[.int .i64 a, .bool true]) (by simp [results, Try.results12, go_sem]) rfl ⟨rfl, thru K3.out k4⟩
  · have H1 := Lib.hid h1
    have hvt : u = v := by rw [← HV.out, decide_eq_false h1]; rfl
    subst hvt
    clear h1 HV
    refine HoldAll.wp_region_hold_all [.val (.pointer (some ⟨b0, 2, none⟩)), .val (.int .i64 x.wd), .val (.agg #[.int .i64 a, .int .i64 b]), .val (.int .i64 d), .val (.bool false), .val (.bool false), .val (x.v), .val (.agg #[.int .i64 L, .int .i64 R]), .val (.bool u), .val (.bool u)] (by kernel_rfl) (by kernel_rfl) (by kernel_rfl) ?_ ?_
    · simp only [Hold.fill, Hold.Leave.value]
      refine ⟨?_, ?_, ?_, ?_, ?_, ?_, ?_, ?_, ?_, ?_, trivial⟩
      · intro gg w' hw hk
        go_simp
        exact ⟨rfl, rfl⟩
      · intro gg w' hw hk
        have q := (HA.out w' hw).2.2.1
        go_simp
        exact ⟨rfl, rfl⟩
      · intro gg w' hw hk
        have q0 := (HQ.out w' hw).2.1
        have q1 := (HQ.out w' hw).2.2
        go_simp
        exact ⟨rfl, rfl⟩
      · intro gg w' hw hk
        go_simp
        exact Hold.stays_call (HLd.out w')
      · intro gg w' hw hk
        have q := H1.out
        go_simp
        exact ⟨rfl, rfl⟩
      · intro gg w' hw hk
        go_simp
        exact ⟨rfl, rfl⟩
      · intro gg w' hw hk
        have q0 := (HA.out w' hw).1
        have q1 := (HA.out w' hw).2.1
        have q2 := (HA.out w' hw).2.2.1
        have q3 := (HA.out w' hw).2.2.2.1
        have q4 := (HA.out w' hw).2.2.2.2
        go_simp
        exact ⟨rfl, rfl⟩
      · intro gg w' hw hk
        have q0 := (HQ.out w' hw).1.1
        have q1 := (HQ.out w' hw).1.2
        go_simp
        exact ⟨rfl, rfl⟩
      · intro gg w' hw hk
        go_simp
        exact Hold.stays_call (HUn.out w')
      · intro gg w' hw hk
        go_simp
        exact ⟨rfl, rfl⟩
    intro gg w4 k4 hgg
    clear hgg
    simp only [Hold.fill, Hold.Leave.value]
    cases u
    · obtain rfl : z = 0 := HZ.out
      go_simp
      go_wp2_with fail
      exact bodyPost_ret (v := .tuple #[.int .i64 0, .bool false]) (by simp [results, Try.results12, go_sem]) rfl ⟨rfl, thru K3.out k4⟩
    · obtain rfl : a = z := HZ.out.symm
      go_simp
      obtain ⟨r0, r1⟩ := (HQ.out _ k4).2
      go_wp2_with fail
      exact bodyPost_ret (v := .tuple #[.int .i64 a, .bool true]) (by simp [results, Try.results12, go_sem]) rfl ⟨rfl, thru K3.out k4⟩

end

end Go.Proofs.Ytmpfjkhboenfcaa.Avoid
