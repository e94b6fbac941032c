/- The walk of StrutJoins. -/
import Derived.Test.YtfiagopmolegjaaJoin
namespace Go.Proofs.Ytfiagopmolegjaa
open Go.RowKit Go.Sort

set_option maxRecDepth 100000 in
set_option maxHeartbeats 1000000 in
theorem joins_yes (A : Option Addr) (n c : Nat) (xs : List Int) (cut again : Int) (w : World) (hcut : 0 ≤ cut ∧ cut ≤ 255) (hag : 0 ≤ again ∧ again ≤ 255) (hn : n = xs.length) (h60 : n ≤ 60) (hc : n ≤ c) (hc0 : A = none → c = 0)
    (hx : Nums w w.heap.size A xs) (hs : xs.all inB = true) :
    Calls Try.prog 4 #[.slice A n c, .int .u8 cut, .int .u8 again] w fun e w' => e = .returned (.bool true) ∧ Below w.heap.size w w' := by
  obtain ⟨k, hk, hkn⟩ : ∃ q : Nat, cut % ((n : Int) + 1) = (q : Int) ∧ q ≤ n := by
    have h0 := Int.emod_nonneg cut (show ((n : Int) + 1) ≠ 0 by omega)
    have h1 := Int.emod_lt_of_pos cut (show (0 : Int) < (n : Int) + 1 by omega)
    exact ⟨(cut % ((n : Int) + 1)).toNat, by omega, by omega⟩
  obtain ⟨p, hp⟩ : ∃ p, mostOf xs = p := ⟨_, rfl⟩
  obtain ⟨q, hq⟩ : ∃ q, leastOf xs = q := ⟨_, rfl⟩
  obtain ⟨pa, hpa⟩ : ∃ p, mostOf (xs.take k) = p := ⟨_, rfl⟩
  obtain ⟨qa, hqa⟩ : ∃ q, leastOf (xs.take k) = q := ⟨_, rfl⟩
  obtain ⟨pb, hpb⟩ : ∃ p, mostOf (xs.drop k) = p := ⟨_, rfl⟩
  obtain ⟨qb, hqb⟩ : ∃ q, leastOf (xs.drop k) = q := ⟨_, rfl⟩
  have JAB := Lib.hid (show max pa pb = p ∧ min qa qb = q by rw [← hp, ← hq, ← hpa, ← hqa, ← hpb, ← hqb]; exact ⟨most_split xs k, least_split xs k⟩)
  have JBA := Lib.hid (show max pb pa = p ∧ min qb qa = q by have := JAB.out; omega)
  have JSS := Lib.hid (show max p p = p ∧ min q q = q by omega)
  have JS0 := Lib.hid (show max p 0 = p ∧ min q 0 = q by rw [← hp, ← hq]; exact ⟨most_zero xs, least_zero xs⟩)
  have HPQ := Lib.hid (And.intro hp hq)
  have HA := Lib.hid (And.intro hpa hqa)
  have HB := Lib.hid (And.intro hpb hqb)
  have HX := Lib.hid hx
  have HN := Lib.hid hn
  have HS := Lib.hid hs
  have HC0 := Lib.hid hc0
  obtain ⟨hcut1, hcut2⟩ := hcut
  obtain ⟨hag1, hag2⟩ := hag
  clear hx hn hs hc0 hp hq hpa hqa hpb hqb
  go_enter Try.func4, Try.ntmps4
  go_wp2_with fail
  refine (speaks_any _).mono ?_; rintro e w1 ⟨rfl, b1⟩
  go_wp2_with fail
  refine (small_is _ _ _ xs _ HN.out (by omega) _ (HX.out.thru b1) _ HS.out).mono ?_; rintro e w2 ⟨rfl, rfl⟩
  have HX1 := Lib.hid (HX.out.thru b1)
  replace b1 := Lib.hid b1
  have hkc : k ≤ c := by omega
  go_upto_region 4 with fail
  rw [hk]
  refine wp_region_boxes [.val (.slice A n c), .val (.agg #[.int .i64 p, .int .i64 q]), .val (.slice A n c), .val (.int .i64 k), .val (.slice A k c), .val (.agg #[.int .i64 pa, .int .i64 qa]),
    .val (.slice A n c), .val (.int .i64 k), .val (.slice (backA A c k) (n - k) (c - k)), .val (.agg #[.int .i64 pb, .int .i64 qb]),
    .box (.cells #[.int .i64 0, .int .i64 0] 26), .box (.cells #[.int .i64 0, .int .i64 0] 26), .box (.cells #[.int .i64 0, .int .i64 0] 26)] (by kernel_rfl) (by kernel_rfl) ?_ ?_
  · simp only [fill, Yield.value]
    refine ⟨?_, ?_, ?_, ?_, ?_, ?_, ?_, ?_, ?_, ?_, ?_, ?_, ?_, trivial⟩
    · intro w' hw
      go_simp
      exact stays_val
    · intro w' hw
      go_simp
      exact stays_call (of_is HPQ.out HN.out h60 (HX1.out.thru hw))
    · intro w' hw
      go_simp
      exact stays_val
    · intro w' hw
      go_simp
      exact stays_val
    · intro w' hw
      go_simp
      exact stays_val
    · intro w' hw
      go_simp
      exact stays_call (of_is HA.out (by rw [List.length_take, ← HN.out]; omega) (by omega) ((HX1.out.thru hw).front k))
    · intro w' hw
      go_simp
      exact stays_val
    · intro w' hw
      go_simp
      exact stays_val
    · intro w' hw
      go_simp
      exact ⟨rfl, rfl⟩
    · intro w' hw
      go_simp
      exact stays_call (of_is HB.out (by rw [List.length_drop, ← HN.out]) (by omega) ((HX1.out.thru hw).back' HN.out hc k hkn))
    · intro w'
      go_simp
    · intro w'
      go_simp
    · intro w'
      go_simp
  · intro g w2 k2 hbox hap
    obtain ⟨g1, h1⟩ := hbox 10 _ rfl
    obtain ⟨g2, h2⟩ := hbox 11 _ rfl
    obtain ⟨g3, h3⟩ := hbox 12 _ rfl
    have h12 := hap 10 11 _ _ (by decide) rfl rfl
    have h13 := hap 10 12 _ _ (by decide) rfl rfl
    have h23 := hap 11 12 _ _ (by decide) rfl rfl
    clear hbox hap
    have H12 := Lib.hid h12
    have H13 := Lib.hid h13
    have H23 := Lib.hid h23
    obtain ⟨c0, c1⟩ := R2.of_block h1
    obtain ⟨d0, d1⟩ := R2.of_block h2
    obtain ⟨e0, e1⟩ := R2.of_block h3
    obtain ⟨f0, f1⟩ := free2 h1
    obtain ⟨f2, f3⟩ := free2 h2
    obtain ⟨f4, f5⟩ := free2 h3
    have X1 := Lib.hid h1
    have X2 := Lib.hid h2
    have X3 := Lib.hid h3
    have K2 := Lib.hid k2
    clear h1 h2 h3 k2
    simp only [fill, Yield.value, List.length_cons, List.length_nil, List.drop_succ_cons, List.drop_zero]
    change g 10 ≠ g 11 at h12
    change g 10 ≠ g 12 at h13
    change g 11 ≠ g 12 at h23
    have h21 := Ne.symm h12
    have h31 := Ne.symm h13
    have h32 := Ne.symm h23
    generalize g 10 = p1 at *
    generalize g 11 = p2 at *
    generalize g 12 = p3 at *
    go_upto_region 5 with fail
    generalize hw3 : World.setCell _ _ _ = w3
    obtain ⟨sa, sb, sc, k3⟩ := stored_three K2.out g1 X1.out g2 X2.out g3 X3.out H12.out H13.out H23.out p q pa qa pb qb w3 hw3.symm
    clear hw3 c0 c1 d0 d1 e0 e1 f0 f1 f2 f3 f4 f5 X1 X2 X3 K2 h12 h13 h23 h21 h31 h32 H12 H13 H23 g1 g2 g3
    have SA := Lib.hid sa
    have SB := Lib.hid sb
    have SC := Lib.hid sc
    have B3 := Lib.hid (thru b1.out k3)
    clear sa sb sc k3 b1 HX1
    obtain ⟨sa0, sa1⟩ := SA.out.grown
    obtain ⟨sb0, sb1⟩ := SB.out.grown
    obtain ⟨sc0, sc1⟩ := SC.out.grown
    refine wp_region_quiet_below (by kernel_rfl) (by kernel_rfl) ?_
    repeat (quiet_step (first
      | (go_at_call 16; with_reducible exact Calls.regrown_of (join_is JAB.out _))
      | (go_at_call 16; with_reducible exact Calls.regrown_of (join_is JBA.out _))
      | (go_at_call 16; with_reducible exact Calls.regrown_of (join_is JSS.out _))
      | (go_at_call 16; with_reducible exact Calls.regrown_of (join_is JS0.out _))
      | (go_at_call 17; with_reducible exact Calls.regrown_of (with_is JS0.out _))))
    refine wpQuiet_nil ?_
    intro _ hw'
    obtain ⟨⟨dq5, os5⟩, hw''⟩ := hw'
    subst hw''
    clear sa0 sa1 sb0 sb1 sc0 sc1
    have q5 := below_regrown w3 dq5 os5
    generalize grow (redrawn w3 dq5) os5 = w4 at q5 ⊢
    replace SA := Lib.hid (SA.out.below q5)
    replace B3 := Lib.hid (thru B3.out q5)
    clear q5 SB SC JAB JBA HA HB
    go_upto_region 7 with fail
    go_cut [90] (fun t wx => t = .bool false ∧ Hid (R2 wx p1 p q ∧ Below w.heap.size w wx))
    case first =>
      obtain ⟨sa0, sa1⟩ := SA.out.grown
      by_cases h0 : n = 0
      · subst h0
        go_quiet (fail)
        have q7 : Below w4.heap.size w4 (w4.drewN nq) := ⟨rfl, rfl, rfl, Nat.le_refl _, fun _ _ => rfl⟩
        clear sa0 sa1
        generalize w4.drewN nq = w5 at q7 ⊢
        go_wp2_with fail
        go_meet
        exact ⟨rfl, Lib.hid ⟨SA.out.below q7, thru B3.out q7⟩⟩
      · obtain ⟨j, hj, hjn⟩ : ∃ j : Nat, again % (n : Int) = (j : Int) ∧ j < n := by
          have h0 := Int.emod_nonneg again (show (n : Int) ≠ 0 by omega)
          have h1 := Int.emod_lt_of_pos again (show (0 : Int) < (n : Int) by omega)
          exact ⟨(again % (n : Int)).toNat, by omega, by omega⟩
        have hj2 : (IntKind.i64.wrap again).tmod (n : Int) = (j : Int) := by
          rw [IntWalk.i64_in _ (by omega), Int.tmod_eq_emod_of_nonneg hag1]; exact hj
        have hpos : 0 < n := by omega
        have JAG := Lib.hid (show max p (xs.getD j 0) = p ∧ min q (xs.getD j 0) = q by
          rw [← HPQ.out.1, ← HPQ.out.2]; exact ⟨most_again xs j (by rw [← HN.out]; exact hjn), least_again xs j (by rw [← HN.out]; exact hjn)⟩)
        obtain ⟨ad, hA, _, hcx⟩ := (HX.out.below B3.out) j (by rw [← HN.out]; exact hjn)
        subst hA
        generalize xs.getD j 0 = y at hcx JAG
        have ky := cell_regrown hcx
        clear hcx hj
        refine wp_region_quiet_below (by kernel_rfl) (by kernel_rfl) ?_
        repeat (quiet_step (first
          | (go_at_call 17; with_reducible exact Calls.regrown_of (with_is JAG.out _))))
        refine wpQuiet_nil ?_
        intro _ hw'
        obtain ⟨⟨dq7, os7⟩, hw''⟩ := hw'
        subst hw''
        clear sa0 sa1 ky hj2
        have q7 := below_regrown w4 dq7 os7
        generalize grow (redrawn w4 dq7) os7 = w5 at q7 ⊢
        go_wp2_with fail
        go_meet
        exact ⟨rfl, Lib.hid ⟨SA.out.below q7, thru B3.out q7⟩⟩
    case rest =>
      obtain ⟨rfl, hcut⟩ := hcut
      clear SA B3
      go_upto_region 10 with fail
      have SA := Lib.hid hcut.out.1
      have B3 := Lib.hid hcut.out.2
      clear hcut
      have hlt := block_lt_of_cell SA.out.1
      simp only at hlt
      generalize hW : World.alloc wc _ = W
      have s0 : R2 W p1 p q := by rw [← hW]; exact SA.out.below (ba1 wc _)
      have s1 : R2 W wc.heap.size 0 0 := by rw [← hW]; constructor <;> simp [go_sem]
      have f0 : W.frozen? ⟨wc.heap.size, 0, none⟩ = false := by rw [← hW]; simp [go_sem]
      have f1 : W.frozen? ⟨wc.heap.size, 1, none⟩ = false := by rw [← hW]; simp [go_sem]
      have B5 : Hid (Below w.heap.size w W) := Lib.hid (by rw [← hW]; exact thru B3.out (ba1 wc _))
      have hz : Hid (w.heap.size ≤ wc.heap.size) := Lib.hid B3.out.size
      clear hW SA B3
      have h1p : ¬ (p1 = wc.heap.size) := by omega
      generalize wc.heap.size = g at *
      go_wp2_with fail
      go_loopw [94] (fun v wr => ∃ i : Nat, ∃ x y : Int, i ≤ n ∧ v = .int .i64 i ∧ wr.cell? ⟨g, 0, none⟩ = some (.int .i64 x) ∧ wr.cell? ⟨g, 1, none⟩ = some (.int .i64 y) ∧
        wr.frozen? ⟨g, 0, none⟩ = false ∧ wr.frozen? ⟨g, 1, none⟩ = false ∧ Hid (x = mostOf (xs.reverse.take i) ∧ y = leastOf (xs.reverse.take i) ∧ R2 wr p1 p q ∧ Below w.heap.size w wr)) (fun v _ => n - (intOf v).toNat)
      case atStart => exact ⟨0, 0, 0, Nat.zero_le _, rfl, s1.1, s1.2, f0, f1, Lib.hid ⟨rfl, rfl, s0, B5.out⟩⟩
      case round =>
        obtain ⟨i, x, y, hi, rfl, c0, c1, g0, g1, H⟩ := hrel
        by_cases hlt : i < n
        · obtain ⟨j, hj, hjn⟩ : ∃ j : Nat, n - 1 - i = j ∧ j < n := ⟨_, rfl, by omega⟩
          have hj2 : IntKind.i64.wrap (IntKind.i64.wrap ((n : Int) - 1) - (i : Int)) = (j : Int) := by rw [IntWalk.i64_in ((n : Int) - 1) (by omega), IntWalk.i64_in _ (by omega)]; omega
          have hir : i < xs.reverse.length := by rw [List.length_reverse, ← HN.out]; exact hlt
          have HM := Lib.hid (mostOf_take xs.reverse i hir)
          have HL := Lib.hid (leastOf_take xs.reverse i hir)
          rw [getD_reverse xs i (by rw [← HN.out]; exact hlt), ← HN.out, hj] at HM HL
          obtain ⟨ad, hA, _, hcx⟩ := (HX.out.below H.out.2.2.2) j (by rw [← HN.out]; exact hjn)
          subst hA
          generalize xs.getD j 0 = m at hcx HM HL
          have kc := cell_regrown hcx
          have k0 := cell_regrown c0
          have k1 := cell_regrown c1
          have hgl := block_lt_of_cell c0
          simp only at hgl
          clear hcx hir hj
          go_upto_region 13 with fail
          refine wp_region_quiet_below_tail 10 (by kernel_rfl) (by kernel_rfl) ?_
          simp only [List.take_succ_cons, List.take_zero, List.drop_succ_cons, List.drop_zero]
          repeat (quiet_step (first
            | (go_at_call 17; with_reducible exact Calls.regrown_of (with_any _ _ _ _))))
          refine wpQuiet_nil ?_
          intro _ hw'
          obtain ⟨⟨dq, os⟩, hw''⟩ := hw'
          subst hw''
          clear kc k0 k1 hj2
          have hb := below_regrown wr dq os
          generalize grow (redrawn wr dq) os = w2 at hb ⊢
          obtain ⟨e0, z0⟩ := bcell hb
          have e1 := e0 g 1 hgl
          have z1 := z0 g 1 hgl
          replace e0 := e0 g 0 hgl
          replace z0 := z0 g 0 hgl
          rw [c0] at e0
          rw [c1] at e1
          rw [g0] at z0
          rw [g1] at z1
          have hp1 := H.out.2.2.1.below hb
          have hB1 := thru H.out.2.2.2 hb
          have HB1 := Lib.hid hB1
          have HP1 := Lib.hid hp1
          clear c0 c1 g0 g1 hb hp1 hB1
          go_wp2_with fail
          go_roundw
          case rel =>
            refine ⟨i + 1, max x m, min y m, by omega, by go_num, by simp [go_sem, e0], by simp [go_sem, e1], by simp [go_sem, z0], by simp [go_sem, z1], Lib.hid ⟨?_, ?_, ?_, ?_⟩⟩
            · rw [HM.out, ← H.out.1]
            · rw [HL.out, ← H.out.2.1]
            · constructor
              · rw [World.cell?_setCell_other _ _ _ _ (by first | (simp; done) | (simp; omega)), World.cell?_setCell_other _ _ _ _ (by first | (simp; done) | (simp; omega))]; exact HP1.out.1
              · rw [World.cell?_setCell_other _ _ _ _ (by first | (simp; done) | (simp; omega)), World.cell?_setCell_other _ _ _ _ (by first | (simp; done) | (simp; omega))]; exact HP1.out.2
            · exact (HB1.out.setCell (show _ ≤ g from hz.out) _).setCell (show _ ≤ g from hz.out) _
          case measure => simp [intOf]; omega
        · obtain rfl : i = n := by omega
          have ht : xs.reverse.take i = xs.reverse := List.take_of_length_le (by rw [List.length_reverse, ← HN.out]; omega)
          have hxy : x = p ∧ y = q := by rw [H.out.1, H.out.2.1, ht, most_reverse, least_reverse]; exact HPQ.out
          obtain ⟨rfl, rfl⟩ := hxy
          obtain ⟨d0, d1⟩ := H.out.2.2.1
          clear ht
          go_wp2_with fail
          go_ret
          exact ⟨rfl, H.out.2.2.2⟩

set_option maxRecDepth 100000 in
set_option maxHeartbeats 400000 in
theorem joins_no (A : Option Addr) (n c : Nat) (xs : List Int) (cut again : Int) (w : World) (hn : n = xs.length) (h60 : n ≤ 60) (hx : Nums w w.heap.size A xs) (hs : xs.all inB = false) :
    Calls Try.prog 4 #[.slice A n c, .int .u8 cut, .int .u8 again] w fun e w' => e = .returned (.bool true) ∧ Below w.heap.size w w' := by
  have HX := Lib.hid hx
  have HN := Lib.hid hn
  have HS := Lib.hid hs
  clear hx hn hs
  go_enter Try.func4, Try.ntmps4
  go_wp2_with fail
  refine (speaks_any _).mono ?_; rintro e w1 ⟨rfl, b1⟩
  go_wp2_with fail
  refine (small_is _ _ _ xs _ HN.out (by omega) _ (HX.out.thru b1) _ HS.out).mono ?_; rintro e w2 ⟨rfl, rfl⟩
  go_wp2_with fail
  refine (speaks_any _).mono ?_; rintro e w3 ⟨rfl, b3⟩
  go_wp2_with fail
  go_ret
  exact ⟨rfl, thru b1 b3⟩

set_option maxRecDepth 100000 in
set_option maxHeartbeats 400000 in
theorem joins_long (A : Option Addr) (n c : Nat) (cut again : Int) (w : World) (h60 : ¬ n ≤ 60) :
    Calls Try.prog 4 #[.slice A n c, .int .u8 cut, .int .u8 again] w fun e w' => e = .returned (.bool true) ∧ Below w.heap.size w w' := by
  go_enter Try.func4, Try.ntmps4
  go_wp2_with fail
  refine (speaks_any _).mono ?_; rintro e w1 ⟨rfl, b1⟩
  go_wp2_with fail
  refine (speaks_any _).mono ?_; rintro e w3 ⟨rfl, b3⟩
  go_wp2_with fail
  go_ret
  exact ⟨rfl, thru b1 b3⟩

theorem joins_any (A : Option Addr) (n c : Nat) (xs : List Int) (cut again : Int) (w : World) (hcut : 0 ≤ cut ∧ cut ≤ 255) (hag : 0 ≤ again ∧ again ≤ 255) (hn : n = xs.length) (hc : n ≤ c) (hc0 : A = none → c = 0)
    (hx : Nums w w.heap.size A xs) : Calls Try.prog 4 #[.slice A n c, .int .u8 cut, .int .u8 again] w fun e w' => e = .returned (.bool true) ∧ Below w.heap.size w w' := by
  by_cases h60 : n ≤ 60
  · cases h : xs.all inB with
    | false => exact joins_no A n c xs cut again w hn h60 hx h
    | true => exact joins_yes A n c xs cut again w hcut hag hn h60 hc hc0 hx h
  · exact joins_long A n c cut again w h60

end Go.Proofs.Ytfiagopmolegjaa
