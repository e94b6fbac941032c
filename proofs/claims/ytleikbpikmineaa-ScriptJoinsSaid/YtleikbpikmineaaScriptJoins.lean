/- The walk of ScriptJoins, whatever the program's own functions look like that keep their contracts. -/
import Derived.Test.YtleikbpikmineaaScriptReads
import Derived.Maps.OwnSet
namespace Go.Proofs.Ytleikbpikmineaa.Script
open Go.RowKit Go.Sort Go.Proofs.Ytleikbpikmineaa.Record

theorem AtP.cell {w : World} {p : Addr} {i : Nat} {b : Bx} (h : AtP w (p.add i) b) (j : Nat) (v : Value) (hv : (cellsOfB b)[j]? = some v) : w.cell? (p.add (i + j)) = some v := by
  have hj : j < 14 := by
    have := (List.getElem?_eq_some_iff.1 hv).1
    rwa [cellsOfB_len] at this
  rw [← add_add]
  generalize p.add i = q at h ⊢
  obtain ⟨c0, c1, c2, c3, c4, c5, c6, c7, c8, c9, c10, c11, c12, c13⟩ := h
  obtain rfl | rfl | rfl | rfl | rfl | rfl | rfl | rfl | rfl | rfl | rfl | rfl | rfl | rfl : j = 0 ∨ j = 1 ∨ j = 2 ∨ j = 3 ∨ j = 4 ∨ j = 5 ∨ j = 6 ∨ j = 7 ∨ j = 8 ∨ j = 9 ∨ j = 10 ∨ j = 11 ∨ j = 12 ∨ j = 13 := by omega
  all_goals
    simp only [cellsOfB, List.getElem?_cons_zero, List.getElem?_cons_succ, Option.some.injEq] at hv
    subst hv
    simpa [Addr.add] using ‹_›

theorem flat_split (bs : List Bx) (j : Nat) (u : Value) (h : (bs.flatMap cellsOfB)[j]? = some u) : ∃ k r, k < bs.length ∧ j = k * 14 + r ∧ (cellsOfB (bs.getD k noB))[r]? = some u := by
  have hl := (List.getElem?_eq_some_iff.1 h).1
  rw [flat_len] at hl
  refine ⟨j / 14, j % 14, by omega, by omega, ?_⟩
  have hr : j % 14 < (cellsOfB (bs.getD (j / 14) noB)).length := by rw [cellsOfB_len]; omega
  have hv := flat_at bs (j / 14) (by omega) (j % 14) _ (List.getElem?_eq_getElem hr)
  rw [show j / 14 * 14 + j % 14 = j by omega, h] at hv
  rw [List.getElem?_eq_getElem hr]
  exact hv.symm

theorem Boxes.src {w : World} {B : Nat} {A : Option Addr} {n c : Nat} {bs : List Bx} (h : Boxes w B A bs) (hn : bs.length = n) (hc : A = none → c = 0) : SrcB w A n c bs := by
  refine ⟨hn, hc, fun j u hu => ?_⟩
  obtain ⟨k, r, hk, rfl, hr⟩ := flat_split bs j u hu
  obtain ⟨ad, e, _, hat⟩ := h k hk
  exact ⟨ad, e, hat.cell r u hr⟩

theorem count_zero {D : DataW Unit} {bs : List Bx} (h : CountD D bs) {x c : Int} (hx : (Lit.int .i64 x).wf = true) (hc : D.atKey (.int .i64 x) (.lit (.int .i64 0)) = .lit (.int .i64 c)) : c = manyOf x bs := by
  rw [h.2.1 _ hx] at hc
  split at hc
  · rename_i h0
    rw [h0]
    injection hc with hc; injection hc with _ hc
    simp [← hc]
  · injection hc with hc; injection hc with _ hc
    exact hc.symm

set_option maxRecDepth 100000 in
set_option maxHeartbeats 4000000 in
theorem joins_few (hS : SpeaksOk) (hE : EncodeOk) (hD : DecodeOk) (hC : CountOk) (A : Option Addr) (n c : Nat) (xs : List Bx) (A' : Option Addr) (n' c' : Nat) (ys : List Bx) (w : World)
    (hn : n = xs.length) (h40 : n ≤ 40) (hc : A = none → c = 0) (hx : Boxes w w.heap.size A xs) (hkx : ∀ b ∈ xs, (Lit.int .i64 b.k).wf = true)
    (hn' : n' = ys.length) (h40' : n' ≤ 40) (hc' : A' = none → c' = 0) (hy : Boxes w w.heap.size A' ys) (hky : ∀ b ∈ ys, (Lit.int .i64 b.k).wf = true) :
    Calls Try.prog 7 #[.slice A n c, .slice A' n' c'] w fun e w' => e = .returned (.bool true) ∧ Below w.heap.size w w' := by
  have HX := Lib.hid hx
  have HY := Lib.hid hy
  have HN := Lib.hid hn
  have HN' := Lib.hid hn'
  have HC1 := Lib.hid hc
  have HC2 := Lib.hid hc'
  have HKX := Lib.hid hkx
  have HKY := Lib.hid hky
  have HS := Lib.hid hS
  have HE := Lib.hid hE
  have HD := Lib.hid hD
  have HC := Lib.hid hC
  clear hx hy hn hn' hc hc' hkx hky hS hE hD hC
  go_enter Try.func7, Try.ntmps7
  go_wp2_with fail
  refine (HS.out _).mono ?_; rintro e w1 ⟨rfl, k1⟩
  have K1 := Lib.hid k1
  have HX1 := Lib.hid (HX.out.thru k1)
  have HY1 := Lib.hid (HY.out.thru k1)
  clear k1
  go_upto_region 3 with fail
  go_wp2_with (first
    | (at_builtin; refine wpList_append_boxes infoRef _ rfl (.tmp 27) (.tmp 28) rfl w1.heap.size (some ⟨w1.heap.size, 0, none⟩) 0 0 [] rfl (emptyB_mine 37 w1 w1.heap.size (Nat.le_refl _)) A n c xs rfl ((HX1.out.below (ba1 w1 _)).src HN.out.symm HC1.out) (by omega) (by simp) ?_; intro A3 c3 w3 h3; have M3 : Hid (MineB 37 w3 w1.heap.size A3 n c3 xs) := Lib.hid (by have h := h3.1; rw [Nat.zero_add, List.nil_append] at h; exact h); have K3 := Lib.hid (h3.below (emptyB_mine 37 w1 w1.heap.size (Nat.le_refl _)) (ba1 w1 _) (Nat.le_refl _) (by simp)); clear h3)
    | (at_builtin; refine wpList_append_boxes infoRef _ rfl (.tmp 29) (.tmp 30) rfl w1.heap.size A3 n c3 xs rfl M3.out A' n' c' ys rfl ((HY1.out.below K3.out).src HN'.out.symm HC2.out) (by omega) K3.out.size ?_; intro A4 c4 w4 h4; have M4 := Lib.hid h4.1; have K4 := Lib.hid (h4.below M3.out K3.out (Nat.le_refl _) K3.out.size); clear h4))
  have HX4 := Lib.hid (HX1.out.thru K4.out)
  have HY4 := Lib.hid (HY1.out.thru K4.out)
  have HZ4 := Lib.hid M4.out.boxes
  have K4w := Lib.hid (thru K1.out K4.out)
  clear M3 K3 M4 K4 K1 HX1 HY1
  refine (ofs_any A n c xs w4 HN.out (by omega) HX4.out).mono ?_; rintro e w5 ⟨⟨A5, c5, rfl, m5⟩, k5⟩
  have K5 := Lib.hid (thru K4w.out k5)
  have HX5 := Lib.hid (HX4.out.thru k5)
  have HY5 := Lib.hid (HY4.out.thru k5)
  have HZ5 := Lib.hid (HZ4.out.thru k5)
  have B5 := Lib.hid m5.boxes
  clear k5 m5 HX4 HY4 HZ4
  go_wp2_with fail
  refine (HE.out A5 n c5 xs w5 HN.out (by omega) B5.out).mono ?_; rintro e w6 ⟨⟨A6, c6, rfl, m6⟩, k6⟩
  have K6 := Lib.hid (thru K5.out k6)
  have L6 := Lib.hid k6
  have M6 := Lib.hid m6
  clear k6 m6 B5
  go_wp2_with fail
  refine (ofs_any A' n' c' ys w6 HN'.out (by omega) ((HY5.out.below L6.out).more L6.out.size)).mono ?_; rintro e w7 ⟨⟨A7, c7, rfl, m7⟩, k7⟩
  have K7 := Lib.hid (thru K6.out k7)
  have L7 := Lib.hid (thru L6.out k7)
  have B7 := Lib.hid m7.boxes
  have M7 := Lib.hid (M6.out.below k7)
  clear k7 m7 M6 L6
  go_wp2_with fail
  refine (HE.out A7 n' c7 ys w7 HN'.out (by omega) B7.out).mono ?_; rintro e w8 ⟨⟨A8, c8, rfl, m8⟩, k8⟩
  have K8 := Lib.hid (thru K7.out k8)
  have L8 := Lib.hid (thru L7.out k8)
  have M8 := Lib.hid (M7.out.below k8)
  have N8 := Lib.hid m8.src
  clear k8 m8 B7 M7 L7
  go_wp2_with (first
    | (at_builtin; refine wpList_append_mine _ rfl (.tmp 34) (.tmp 37) rfl w5.heap.size A6 (n * 14) c6 (xs.flatMap numsOf) rfl M8.out A8 (n' * 14) c8 (ys.flatMap numsOf) rfl N8.out (by omega) L8.out.size ?_; intro A9 c9 w9 h9; have M9 := Lib.hid h9.1; have C9 := Lib.hid (Mine.cap h9.1); have L9 := Lib.hid (h9.below M8.out L8.out (Nat.le_refl _) L8.out.size); clear h9))
  have K9 := Lib.hid (thru K5.out L9.out)
  have HX9 := Lib.hid ((HX5.out.below L9.out).more L9.out.size)
  have HY9 := Lib.hid ((HY5.out.below L9.out).more L9.out.size)
  have HZ9 := Lib.hid ((HZ5.out.below L9.out).more L9.out.size)
  have HNZ : Hid (n + n' = (xs ++ ys).length) := Lib.hid (by rw [List.length_append, ← HN.out, ← HN'.out])
  have HFL : Hid (n * 14 + n' * 14 = (xs.flatMap numsOf ++ ys.flatMap numsOf).length) := Lib.hid (by rw [List.length_append, nums_len, nums_len, ← HN.out, ← HN'.out])
  have HFA : Hid (xs.flatMap numsOf ++ ys.flatMap numsOf = (xs ++ ys).flatMap numsOf) := Lib.hid (by rw [List.flatMap_append])
  clear L9 HX5 HY5 HZ5 K5 K6 K7 K8 M8 N8 L8
  refine (ofs_any A4 (n + n') c4 (xs ++ ys) w9 HNZ.out (by omega) HZ9.out).mono ?_; rintro e w10 ⟨⟨A10, c10, rfl, m10⟩, k10⟩
  have K10 := Lib.hid (thru K9.out k10)
  have HX10 := Lib.hid (HX9.out.thru k10)
  have HY10 := Lib.hid (HY9.out.thru k10)
  have B10 := Lib.hid m10.boxes
  have M10 := Lib.hid (M9.out.nums.thru k10)
  clear k10 m10 M9 HX9 HY9 HZ9
  go_wp2_with fail
  have hE := HE.out A10 (n + n') c10 (xs ++ ys) w10 HNZ.out (by omega) B10.out
  rw [show (n + n') * 14 = n * 14 + n' * 14 by omega] at hE
  refine hE.mono ?_; rintro e w11 ⟨⟨A11, c11, rfl, m11⟩, k11⟩
  have K11 := Lib.hid (thru K10.out k11)
  have HX11 := Lib.hid (HX10.out.thru k11)
  have HY11 := Lib.hid (HY10.out.thru k11)
  have M11 := Lib.hid (M10.out.thru k11)
  rw [← HFA.out] at m11
  have N11 := Lib.hid m11.nums
  clear k11 m11 M10 HX10 HY10 B10 hE
  go_wp2_with fail
  refine (same_yes A9 (n * 14 + n' * 14) c9 A11 c11 _ w11 HFL.out (by omega) M11.out N11.out).mono ?_; rintro e w12 ⟨rfl, k12⟩
  have K12 := Lib.hid (thru K11.out k12)
  have HX12 := Lib.hid (HX11.out.thru k12)
  have HY12 := Lib.hid (HY11.out.thru k12)
  have M12 := Lib.hid (M11.out.thru k12)
  clear k12 M11 N11 HX11 HY11
  go_wp2_with fail
  have hD := HD.out A9 (n + n') c9 (xs.flatMap numsOf ++ ys.flatMap numsOf) w12 (by rw [← HFL.out]; omega) (by omega) (by have := C9.out; omega) M12.out
  rw [show (n + n') * 14 = n * 14 + n' * 14 by omega] at hD
  refine hD.mono ?_; rintro e w13 ⟨⟨A13, c13, rfl, m13⟩, k13⟩
  rw [show boxesOf (xs.flatMap numsOf ++ ys.flatMap numsOf) (n + n') = xs ++ ys by rw [HFA.out, HNZ.out]; exact boxesOf_flat _] at m13
  have K13 := Lib.hid (thru K12.out k13)
  have HX13 := Lib.hid (HX12.out.thru k13)
  have HY13 := Lib.hid (HY12.out.thru k13)
  have B13 := Lib.hid m13.boxes
  clear k13 m13 M12 HX12 HY12 hD
  go_wp2_with fail
  refine (ofs_any A n c xs w13 HN.out (by omega) HX13.out).mono ?_; rintro e w14 ⟨⟨A14, c14, rfl, m14⟩, k14⟩
  have K14 := Lib.hid (thru K13.out k14)
  have HY14 := Lib.hid (HY13.out.thru k14)
  have B14 := Lib.hid (B13.out.thru k14)
  have E14 := Lib.hid m14.boxes
  clear k14 m14 HX13 HY13 B13
  go_wp2_with fail
  refine (HC.out A14 n c14 xs w14 HN.out (by omega) E14.out HKX.out).mono ?_; rintro e w15 ⟨⟨bx, Dx, hbx, rfl, ox, dx⟩, k15⟩
  have K15 := Lib.hid (thru K14.out k15)
  have HY15 := Lib.hid (HY14.out.thru k15)
  have B15 := Lib.hid (B14.out.thru k15)
  have OX15 := Lib.hid ox
  have DX := Lib.hid dx
  clear k15 ox dx HY14 B14 E14 hbx
  go_wp2_with fail
  refine (ofs_any A' n' c' ys w15 HN'.out (by omega) HY15.out).mono ?_; rintro e w16 ⟨⟨A16, c16, rfl, m16⟩, k16⟩
  have K16 := Lib.hid (thru K15.out k16)
  have B16 := Lib.hid (B15.out.thru k16)
  have E16 := Lib.hid m16.boxes
  have OX16 := Lib.hid (OX15.out.kept (grown_of_below k16) (by simp))
  clear k16 m16 HY15 B15 OX15
  go_wp2_with fail
  refine (HC.out A16 n' c16 ys w16 HN'.out (by omega) E16.out HKY.out).mono ?_; rintro e w17 ⟨⟨by', Dy, hby, rfl, oy, dy⟩, k17⟩
  have K17 := Lib.hid (thru K16.out k17)
  have B17 := Lib.hid (B16.out.thru k17)
  have OX17 := Lib.hid (OX16.out.kept (grown_of_below k17) (by simp))
  have OY17 := Lib.hid oy
  have DY := Lib.hid dy
  clear k17 oy dy B16 E16 OX16 hby
  go_wp2_with fail
  refine (HC.out A13 (n + n') c13 (xs ++ ys) w17 HNZ.out (by omega) B17.out (fun b hb => (List.mem_append.1 hb).elim (HKX.out b) (HKY.out b))).mono ?_; rintro e w18 ⟨⟨bz, Dz, hbz, rfl, oz, dz⟩, k18⟩
  have K18 := Lib.hid (thru K17.out k18)
  have OX18 := Lib.hid (OX17.out.kept (grown_of_below k18) (by simp))
  have OY18 := Lib.hid (OY17.out.kept (grown_of_below k18) (by simp))
  have OZ18 := Lib.hid oz
  have DZ := Lib.hid dz
  clear k18 oz dz B17 OX17 OY17 hbz
  go_wp2_with (first | (at_range; refine wpList_range_own _ rfl _ 42 rfl 3 3 keyed Try.underlying42 (plainElem Try.prog 3) bz (n + n') Dz rfl OZ18.out ?_; intro w19 hr19 hg19 hs19; have K19 := Lib.hid (K18.out.grown hg19 K18.out.size (fun j e => by cases e)); have HR19 := Lib.hid hr19; have OX19 := Lib.hid (OX18.out.kept hg19 (by simp)); have OY19 := Lib.hid (OY18.out.kept hg19 (by simp)); clear hr19 hg19))
  go_frame
  have LX := Lib.hid OX18.out.lt
  have LY := Lib.hid OY18.out.lt
  have HSZ : Hid (Maps.size Dx = kindsN xs ∧ Maps.size Dy = kindsN ys ∧ Maps.size Dz = kindsN (xs ++ ys)) := Lib.hid ⟨DX.out.2.2, DY.out.2.2, DZ.out.2.2⟩
  go_loopw [12] (fun _ wr => ∃ left cnt, Hid (wr.ranges Try.prog 3 (plainElem Try.prog 3) bz w18.heap.size (n + n') Dz left cnt ∧ wr.ownsMap Try.prog 3 (plainElem Try.prog 3) bx n Dx ∧ wr.ownsMap Try.prog 3 (plainElem Try.prog 3) by' n' Dy ∧ Below w.heap.size w wr)) (fun _ wr => wr.rangeLeft bz w18.heap.size)
  case atStart => exact ⟨_, _, Lib.hid ⟨HR19.out, OX19.out, OY19.out, K19.out⟩⟩
  case round =>
    obtain ⟨left, cnt, H⟩ := hrel
    obtain ⟨wo, hwo⟩ : ∃ x, x = wr := ⟨_, rfl⟩
    subst hwo
    clear K19 HR19 OX19 OY19
    go_wp2_with (first | (at_next; refine wpList_next_ranges_ii _ rfl _ rfl 3 3 .i64 .i64 keyed Try.underlying3 Try.underlying3 bz w18.heap.size (n + n') Dz left cnt rfl H.out.1 ?done ?more))
    case done =>
      intro h0 hall
      have lz := fun ty => H.out.1.owns.len Try.underlying42 ty
      have lx := fun ty => H.out.2.1.len Try.underlying42 ty
      have ly := fun ty => H.out.2.2.1.len Try.underlying42 ty
      rw [HSZ.out.1] at lx
      rw [HSZ.out.2.1] at ly
      rw [HSZ.out.2.2] at lz
      have h1 := kinds_left ys xs
      have h2 := kinds_right ys xs
      generalize kindsN (xs ++ ys) = kz at h1 h2 lz
      generalize kindsN xs = kx at h1 lx
      generalize kindsN ys = ky at h2 ly
      go_wp2_with fail
      go_ret
      exact ⟨rfl, H.out.2.2.2⟩
    case more =>
      intro x q w20 cnt' hx hq hleft hat hr20 hlt hg20 hs20 hen
      have hcz := (count_of DZ.out hx hat).1
      rw [many_append] at hcz
      have HCZ := Lib.hid hcz
      have hmx : manyOf x xs ≤ 40 := by have := many_le x xs; have := HN.out; omega
      have hmy : manyOf x ys ≤ 40 := by have := many_le x ys; have := HN'.out; omega
      have HMX := Lib.hid hmx
      have HMY := Lib.hid hmy
      have HXw := Lib.hid hx
      have HR20 := Lib.hid hr20
      have OX20 := Lib.hid (H.out.2.1.kept hg20 (by have := LX.out; intro e; injection e with e; omega))
      have OY20 := Lib.hid (H.out.2.2.1.kept hg20 (by have := LY.out; intro e; injection e with e; omega))
      have K20 := Lib.hid (H.out.2.2.2.grown hg20 H.out.2.2.2.size (fun j e => by cases e; exact K18.out.size))
      have HLt : Hid (w20.rangeLeft bz w18.heap.size < wo.rangeLeft bz w18.heap.size) := Lib.hid (by rw [hr20.left_eq, H.out.1.left_eq]; exact hlt)
      clear hcz hmx hmy hat hr20 hg20 hs20 hlt hq hx
      go_wp2_with (first
        | (at_lookup; refine wpList_lookup_own_int _ rfl (.tmp 82) (.tmp 83) 42 rfl 3 3 .i64 keyed Try.underlying42 Try.underlying3 (Try.zeroValue3 _) bx n Dx rfl OX20.out _ (.int .i64 x) rfl (Maps.keyOf_int_mk Try.underlying3 HXw.out) ?_; intro qx hax hwx; have hqx : 0 ≤ qx ∧ qx ≤ 40 := (by have := count_zero DX.out HXw.out hax; have := HMX.out; omega); have HQX := Lib.hid (count_zero DX.out HXw.out hax); clear hax hwx)
        | (at_lookup; refine wpList_lookup_own_int _ rfl (.tmp 85) (.tmp 86) 42 rfl 3 3 .i64 keyed Try.underlying42 Try.underlying3 (Try.zeroValue3 _) by' n' Dy rfl OY20.out _ (.int .i64 x) rfl (Maps.keyOf_int_mk Try.underlying3 HXw.out) ?_; intro qy hay hwy; have hqy : 0 ≤ qy ∧ qy ≤ 40 := (by have := count_zero DY.out HXw.out hay; have := HMY.out; omega); have HQY := Lib.hid (count_zero DY.out HXw.out hay); clear hay hwy; have hsum : qx + qy = q := (by have h1 := HQX.out; have h2 := HQY.out; have h3 := HCZ.out; omega)))
      go_roundw
      case rel => exact ⟨_, cnt', Lib.hid ⟨HR20.out, OX20.out, OY20.out, K20.out⟩⟩
      case measure =>
        show _ < wo.rangeLeft bz w18.heap.size
        exact HLt.out

set_option maxRecDepth 100000 in
set_option maxHeartbeats 1000000 in
theorem joins_long (hS : SpeaksOk) (A : Option Addr) (n c : Nat) (A' : Option Addr) (n' c' : Nat) (w : World) (h : ¬ n ≤ 40 ∨ n ≤ 40 ∧ ¬ n' ≤ 40) :
    Calls Try.prog 7 #[.slice A n c, .slice A' n' c'] w fun e w' => e = .returned (.bool true) ∧ Below w.heap.size w w' := by
  have HS := Lib.hid hS
  clear hS
  rcases h with h | ⟨h, h'⟩
  · have h41 : (40 : Int) < (n : Int) := by omega
    go_enter Try.func7, Try.ntmps7
    go_wp2_with fail
    refine (HS.out _).mono ?_; rintro e w1 ⟨rfl, k1⟩
    go_wp2_with fail
    refine (HS.out _).mono ?_; rintro e w2 ⟨rfl, k2⟩
    go_wp2_with fail
    go_ret
    exact ⟨rfl, thru k1 k2⟩
  · have h41 : (40 : Int) < (n' : Int) := by omega
    go_enter Try.func7, Try.ntmps7
    go_wp2_with fail
    refine (HS.out _).mono ?_; rintro e w1 ⟨rfl, k1⟩
    go_wp2_with fail
    refine (HS.out _).mono ?_; rintro e w2 ⟨rfl, k2⟩
    go_wp2_with fail
    go_ret
    exact ⟨rfl, thru k1 k2⟩

theorem joins_any (hS : SpeaksOk) (hE : EncodeOk) (hD : DecodeOk) (hC : CountOk) (A : Option Addr) (n c : Nat) (xs : List Bx) (A' : Option Addr) (n' c' : Nat) (ys : List Bx) (w : World)
    (hn : n = xs.length) (hc : A = none → c = 0) (hx : Boxes w w.heap.size A xs) (hkx : ∀ b ∈ xs, (Lit.int .i64 b.k).wf = true)
    (hn' : n' = ys.length) (hc' : A' = none → c' = 0) (hy : Boxes w w.heap.size A' ys) (hky : ∀ b ∈ ys, (Lit.int .i64 b.k).wf = true) :
    Calls Try.prog 7 #[.slice A n c, .slice A' n' c'] w fun e w' => e = .returned (.bool true) ∧ Below w.heap.size w w' := by
  by_cases h : n ≤ 40
  · by_cases h' : n' ≤ 40
    · exact joins_few hS hE hD hC A n c xs A' n' c' ys w hn h hc hx hkx hn' h' hc' hy hky
    · exact joins_long hS A n c A' n' c' w (Or.inr ⟨h, h'⟩)
  · exact joins_long hS A n c A' n' c' w (Or.inl h)

end Go.Proofs.Ytleikbpikmineaa.Script
