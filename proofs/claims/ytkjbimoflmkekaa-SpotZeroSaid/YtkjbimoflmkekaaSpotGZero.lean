/- The law: a margin of 0 moves nothing; the order of margins is nothing; twice the same one is once. -/
import Derived.Test.YtkjbimoflmkekaaSpotGSmall
namespace Go.Proofs.Ytkjbimoflmkekaa.Spot
open Go.RowKit Go.Sort Go.Proofs.Ytkjbimoflmkekaa.Strut Go.Proofs.Ytkjbimoflmkekaa.More
set_option linter.unusedVariables false
set_option linter.unusedSimpArgs false

set_option maxRecDepth 100000 in
set_option maxHeartbeats 800000 in
theorem zero_long (y : Int) (A : Option Addr) (n c : Nat) (xs : List Int) (cu : Int) (hcu : 0 ≤ cu ∧ cu ≤ 255) (w : World) (hn : n = xs.length) (hc : n ≤ c) (hz : A = none → c = 0) (hx : Nums w w.heap.size A xs) (h20 : ¬ n ≤ 20) :
    Calls Try.prog 6 #[.int .i64 y, .slice A n c, .int .u8 cu] w fun e w' => e = .returned (.bool true) ∧ Below w.heap.size w w' := by
  have h21 : (20 : Int) < (n : Int) := by omega
  clear hx hn hc hz
  go_enter Try.func6, Try.ntmps6
  go_wp2_with fail
  refine (gspeaks w).mono ?_; rintro e w1 ⟨rfl, b1⟩
  go_wp2_with fail
  refine (gspeaks w1).mono ?_; rintro e w2 ⟨rfl, b2⟩
  go_wp2_with fail
  go_ret
  exact ⟨rfl, thru b1 b2⟩

set_option maxRecDepth 100000 in
set_option maxHeartbeats 800000 in
theorem zero_no (y : Int) (A : Option Addr) (n c : Nat) (xs : List Int) (cu : Int) (hcu : 0 ≤ cu ∧ cu ≤ 255) (w : World) (hn : n = xs.length) (hc : n ≤ c) (hz : A = none → c = 0) (hx : Nums w w.heap.size A xs) (h20 : n ≤ 20) (hs : ([y] ++ xs).all in50 = false) :
    Calls Try.prog 6 #[.int .i64 y, .slice A n c, .int .u8 cu] w fun e w' => e = .returned (.bool true) ∧ Below w.heap.size w w' := by
  have h21 : ¬ (20 : Int) < (n : Int) := by omega
  have HS := Lib.hid (fun w' (j : Below w.heap.size w w') => nums_src (hx.thru j) hn hz)
  have HF := Lib.hid hs
  have HN := Lib.hid (⟨hn, h20⟩ : n = xs.length ∧ n ≤ 20)
  clear hx hn hc hz hs h20
  go_enter Try.func6, Try.ntmps6
  go_wp2_with fail
  refine (gspeaks w).mono ?_; rintro e w1 ⟨rfl, b1⟩
  go_wp2_with (first
    | (at_builtin; refine wpList_append_on _ (by go_simp) (.tmp 19) (.tmp 20) rfl w1.heap.size (some ⟨w1.heap.size, 0, none⟩) 1 1 [y] rfl (one_mine w1 w1.heap.size (Nat.le_refl _) y) A n c xs rfl (HS.out _ (thru b1 (ba1 w1 _))) (by have := HN.out; omega) (by simp) ?_; intro A1 c1 W1 h1; have G1 := Lib.hid (⟨h1.1, thru b1 (h1.below (one_mine w1 w1.heap.size (Nat.le_refl _) y) (ba1 w1 _) (Nat.le_refl _) (by simp))⟩ : Mine W1 w1.heap.size A1 (1 + n) c1 ([y] ++ xs) ∧ Below w.heap.size w W1); clear h1)
    | (go_at_call 8; refine (gsmall_is A1 (1 + n) c1 ([y] ++ xs) W1 (by have := HN.out; simp; omega) (by have := HN.out; omega) W1.heap.size (Mine.nums G1.out.1) _ HF.out).mono ?_; rintro e w2 ⟨rfl, rfl⟩))
  refine (gspeaks _).mono ?_; rintro e w2 ⟨rfl, b2⟩
  go_wp2_with fail
  go_ret
  exact ⟨rfl, thru G1.out.2 b2⟩

set_option maxRecDepth 100000 in
set_option maxHeartbeats 4000000 in
theorem zero_yes (y : Int) (A : Option Addr) (n c : Nat) (xs : List Int) (cu : Int) (hcu : 0 ≤ cu ∧ cu ≤ 255) (w : World) (hn : n = xs.length) (hc : n ≤ c) (hz : A = none → c = 0) (hx : Nums w w.heap.size A xs) (h20 : n ≤ 20) (hs : ([y] ++ xs).all in50 = true) :
    Calls Try.prog 6 #[.int .i64 y, .slice A n c, .int .u8 cu] w fun e w' => e = .returned (.bool true) ∧ Below w.heap.size w w' := by
  have h21 : ¬ (20 : Int) < (n : Int) := by omega
  have HS := Lib.hid (fun w' (j : Below w.heap.size w w') => nums_src (hx.thru j) hn hz)
  have HF := Lib.hid hs
  have HN := Lib.hid (⟨hn, h20⟩ : n = xs.length ∧ n ≤ 20)
  have HX := Lib.hid hx
  have hall : xs.all in50 = true := by rw [one_all, Bool.and_eq_true] at hs; exact hs.2
  have hy : -1125899906842624 ≤ y ∧ y ≤ 1125899906842624 := by rw [one_all, Bool.and_eq_true] at hs; exact in50_iff.1 hs.1
  have HY := Lib.hid hy
  have hb1 := most50 xs hall
  have hb2 := least50 xs hall
  obtain ⟨P, hP⟩ : ∃ P, Strut.mostOf xs = P := ⟨_, rfl⟩
  obtain ⟨Q, hQ⟩ : ∃ Q, Strut.leastOf xs = Q := ⟨_, rfl⟩
  rw [hP] at hb1
  rw [hQ] at hb2
  have HPQ := Lib.hid (⟨hP, hQ, hb1, hb2⟩ : Strut.mostOf xs = P ∧ Strut.leastOf xs = Q ∧ (0 ≤ P ∧ P ≤ 1125899906842624) ∧ (-1125899906842624 ≤ Q ∧ Q ≤ 0))
  have hwc : IntKind.i64.wrap cu = cu := IntWalk.i64_in _ (by omega)
  clear hx hc hz hs h20 hn hall hy hb1 hb2 hP hQ
  go_enter Try.func6, Try.ntmps6
  go_wp2_with fail
  refine (gspeaks w).mono ?_; rintro e w1 ⟨rfl, b1⟩
  go_upto_region 4 with (first
    | (at_builtin; refine wpList_append_on _ (by go_simp) (.tmp 19) (.tmp 20) rfl w1.heap.size (some ⟨w1.heap.size, 0, none⟩) 1 1 [y] rfl (one_mine w1 w1.heap.size (Nat.le_refl _) y) A n c xs rfl (HS.out _ (thru b1 (ba1 w1 _))) (by have := HN.out; omega) (by simp) ?_; intro A1 c1 W1 h1; have G1 := Lib.hid (⟨h1.1, thru b1 (h1.below (one_mine w1 w1.heap.size (Nat.le_refl _) y) (ba1 w1 _) (Nat.le_refl _) (by simp))⟩ : Mine W1 w1.heap.size A1 (1 + n) c1 ([y] ++ xs) ∧ Below w.heap.size w W1); clear h1)
    | (go_at_call 8; refine (gsmall_is A1 (1 + n) c1 ([y] ++ xs) W1 (by have := HN.out; simp; omega) (by have := HN.out; omega) W1.heap.size (Mine.nums G1.out.1) _ HF.out).mono ?_; rintro e w2 ⟨rfl, rfl⟩))
  generalize hW : World.alloc (World.alloc _ _) _ = W
  have L3 := two_news W1 27 27 (sprow (cumS y xs 0)) (sprow (cumS y xs.reverse 0)) (by simp)
  replace L3 := (show Lies W W1.heap.size (sprow (cumS y xs 0)) ∧ Lies W (W1.heap.size + 1) (sprow (cumS y xs.reverse 0)) ∧ Below W1.heap.size W1 W by rw [← hW]; exact L3)
  obtain ⟨b7, hb7⟩ : ∃ b7, W1.heap.size = b7 := ⟨_, rfl⟩
  have hlo : w.heap.size ≤ b7 := by rw [← hb7]; exact G1.out.2.size
  have L4 := Lib.hid (⟨thru G1.out.2 L3.2.2, by rw [← hb7]; exact L3.1, by rw [← hb7]; exact L3.2.1, hlo⟩ : Below w.heap.size w W ∧ Lies W b7 (sprow (cumS y xs 0)) ∧ Lies W (b7 + 1) (sprow (cumS y xs.reverse 0)) ∧ w.heap.size ≤ b7)
  rw [hb7]
  clear hW L3 hb7 hlo G1 HS HF b1
  go_wp2_with fail
  go_loopw [32] (fun i wr => ∃ k : Nat, k ≤ n ∧ i = .int .i64 (k : Int) ∧ Hid (Below w.heap.size w wr ∧ Lies wr b7 (sprow (cumS y xs k)) ∧ Lies wr (b7 + 1) (sprow (cumS y xs.reverse k)))) (fun i _ => n - (intOf i).toNat)
  case atStart => exact ⟨0, Nat.zero_le _, rfl, Lib.hid ⟨L4.out.1, L4.out.2.1, L4.out.2.2.1⟩⟩
  case round =>
    obtain ⟨k, hk, rfl, H⟩ := hrel
    have hle := L4.out.2.2.2
    by_cases hlt : k < n
    · have hki : (k : Int) < (n : Int) := by omega
      have hk0 : ¬ (k : Int) < 0 := by omega
      have hwk : IntKind.i64.wrap ((k : Int) + 1) = (k : Int) + 1 := by have := HN.out.2; exact IntWalk.i64_in _ (by omega)
      obtain ⟨j, hj⟩ : ∃ j : Nat, n - 1 - k = j := ⟨_, rfl⟩
      have hjn : j < n := by omega
      have hji : (j : Int) < (n : Int) := by omega
      have hj0 : ¬ (j : Int) < 0 := by omega
      have hw4 : IntKind.i64.wrap ((n : Int) - 1) = (n : Int) - 1 := by have := HN.out.2; exact IntWalk.i64_in _ (by omega)
      have hw6 : IntKind.i64.wrap ((n : Int) - 1 - (k : Int)) = (j : Int) := by rw [IntWalk.i64_in _ (by have := HN.out.2; omega)]; omega
      obtain ⟨ad, hA, hadB, hcx⟩ := HX.out k (by rw [← HN.out.1]; exact hlt)
      obtain ⟨ad', hA', -, hcj⟩ := HX.out j (by rw [← HN.out.1]; exact hjn)
      obtain rfl : ad = ad' := by rw [hA] at hA'; injection hA'
      subst hA
      clear hA'
      have HC := Lib.hid (fun w' (l : Below w.heap.size w w') => (⟨(l.cell (p := ad.add k) (by rw [block_of_add]; exact hadB)).trans hcx, (l.cell (p := ad.add j) (by rw [block_of_add]; exact hadB)).trans hcj⟩ : w'.cell? (ad.add k) = some (.int .i64 (xs.getD k 0)) ∧ w'.cell? (ad.add j) = some (.int .i64 (xs.getD j 0))))
      have e1 := mostOf_take xs k (by rw [← HN.out.1]; exact hlt)
      have e2 := leastOf_take xs k (by rw [← HN.out.1]; exact hlt)
      have e3 := mostOf_take xs.reverse k (by rw [List.length_reverse, ← HN.out.1]; exact hlt)
      have e4 := leastOf_take xs.reverse k (by rw [List.length_reverse, ← HN.out.1]; exact hlt)
      have e5 : xs.reverse.getD k 0 = xs.getD j 0 := by rw [getD_reverse xs k (by rw [← HN.out.1]; exact hlt), ← HN.out.1, hj]
      rw [e5] at e3 e4
      have e6 := most_zero (xs.reverse.take (k + 1))
      have e7 := least_zero (xs.reverse.take (k + 1))
      obtain ⟨m, hm⟩ : ∃ m, xs.getD k 0 = m := ⟨_, rfl⟩
      obtain ⟨m2, hm2⟩ : ∃ m2, xs.getD j 0 = m2 := ⟨_, rfl⟩
      rw [hm] at e1 e2 HC
      rw [hm2] at e3 e4 HC
      have HE := Lib.hid (⟨e1, e2, by rw [← e6, e3], by rw [← e7, e4]⟩ : Strut.mostOf (xs.take (k + 1)) = max (Strut.mostOf (xs.take k)) m ∧ Strut.leastOf (xs.take (k + 1)) = min (Strut.leastOf (xs.take k)) m ∧ Strut.mostOf (xs.reverse.take (k + 1)) = max (max (Strut.mostOf (xs.reverse.take k)) m2) 0 ∧ Strut.leastOf (xs.reverse.take (k + 1)) = min (min (Strut.leastOf (xs.reverse.take k)) m2) 0)
      obtain ⟨p, hp⟩ : ∃ p, Strut.mostOf (xs.take k) = p := ⟨_, rfl⟩
      obtain ⟨q, hq⟩ : ∃ q, Strut.leastOf (xs.take k) = q := ⟨_, rfl⟩
      obtain ⟨p2, hp2⟩ : ∃ p, Strut.mostOf (xs.reverse.take k) = p := ⟨_, rfl⟩
      obtain ⟨q2, hq2⟩ : ∃ q, Strut.leastOf (xs.reverse.take k) = q := ⟨_, rfl⟩
      rw [hp, hq, hp2, hq2] at HE
      obtain ⟨p1, hp1⟩ : ∃ z, max p m = z := ⟨_, rfl⟩
      obtain ⟨q1, hq1⟩ : ∃ z, min q m = z := ⟨_, rfl⟩
      obtain ⟨p3, hp3⟩ : ∃ z, max p2 m2 = z := ⟨_, rfl⟩
      obtain ⟨q3, hq3⟩ : ∃ z, min q2 m2 = z := ⟨_, rfl⟩
      obtain ⟨p4, hp4⟩ : ∃ z, max p3 0 = z := ⟨_, rfl⟩
      obtain ⟨q4, hq4⟩ : ∃ z, min q3 0 = z := ⟨_, rfl⟩
      rw [hp1, hq1, hp3, hq3, hp4, hq4] at HE
      have HW := Lib.hid (⟨by rw [← hp1, ← hq1], by rw [← hp3, ← hq3], by rw [← hp4, ← hq4]⟩ : withS ⟨y, p, q, false, false⟩ m = ⟨y, p1, q1, false, false⟩ ∧ withS ⟨y, p2, q2, false, false⟩ m2 = ⟨y, p3, q3, false, false⟩ ∧ withS ⟨y, p3, q3, false, false⟩ 0 = ⟨y, p4, q4, false, false⟩)
      have H1 := H.out
      unfold cumS at H1
      rw [hp, hq, hp2, hq2] at H1
      clear hp1 hq1 hp3 hq3 hp4 hq4
      have HH := Lib.hid H1
      clear H H1 hp hq hp2 hq2 e1 e2 e3 e4 e5 e6 e7 hm hm2 hcx hcj hj hadB hle
      go_upto_region 7 with fail
      have HZ := Lib.hid (fun w' (l : Below wr.heap.size wr w') => HH.out.2.1.below (by simp) l)
      refine Hold.wp_region_hold [.val (.agg #[.int .i64 y, .int .i64 p, .int .i64 q, .bool false, .bool false]), .val (.slice (some ad) n c), .val (.int .i64 (k : Int)), .val (.pointer (some (ad.add k))), .val (.int .i64 m), .val (.agg #[.int .i64 y, .int .i64 p1, .int .i64 q1, .bool false, .bool false])] (by kernel_rfl) (by kernel_rfl) (by kernel_rfl) ?_ ?_
      · simp only [Hold.fill, Hold.Leave.value]
        refine ⟨?_, ?_, ?_, ?_, ?_, ?_, trivial⟩
        · intro gg w' hw hk
          have q0 : w'.cell? ⟨b7, 0, none⟩ = some (.int .i64 y) := (HZ.out w' hw).at' 0
          have q1 : w'.cell? ⟨b7, 1, none⟩ = some (.int .i64 p) := (HZ.out w' hw).at' 1
          have q2 : w'.cell? ⟨b7, 2, none⟩ = some (.int .i64 q) := (HZ.out w' hw).at' 2
          have q3 : w'.cell? ⟨b7, 3, none⟩ = some (.bool false) := (HZ.out w' hw).at' 3
          have q4 : w'.cell? ⟨b7, 4, none⟩ = some (.bool false) := (HZ.out w' hw).at' 4
          go_simp
          exact ⟨rfl, rfl⟩
        · intro gg w' hw hk
          go_simp
          exact ⟨rfl, rfl⟩
        · intro gg w' hw hk
          go_simp
          exact ⟨rfl, rfl⟩
        · intro gg w' hw hk
          go_simp
          exact ⟨rfl, rfl⟩
        · intro gg w' hw hk
          have q0 := (HC.out w' (thru HH.out.1 hw)).1
          go_simp
          exact ⟨rfl, rfl⟩
        · intro gg w' hw hk
          go_simp
          exact Hold.stays_call (gwith_is HW.out.1 w')
      intro gg w3 k3 hgg
      clear hgg
      simp only [Hold.fill, Hold.Leave.value, List.length_cons, List.length_nil, List.drop_succ_cons, List.drop_zero]
      have z0 := HZ.out w3 k3
      have z1 := HH.out.2.2.below (by simp) k3
      obtain ⟨c0, c1, c2, c3, c4⟩ := sat_of z0
      obtain ⟨f0, f1, f2, f3, f4⟩ := sfr_of z0
      have K3 := Lib.hid (⟨thru HH.out.1 k3, z0, z1⟩ : Below w.heap.size w w3 ∧ Lies w3 b7 (sprow ⟨y, p, q, false, false⟩) ∧ Lies w3 (b7 + 1) (sprow ⟨y, p2, q2, false, false⟩))
      clear z0 z1 k3 HZ HH
      go_simp
      go_upto_region 8 with fail
      generalize hV : World.setCell (World.setCell (World.setCell (World.setCell (World.setCell w3 _ _) _ _) _ _) _ _) _ _ = V
      have zV : Below w.heap.size w V ∧ Lies V b7 (sprow ⟨y, p1, q1, false, false⟩) ∧ Lies V (b7 + 1) (sprow ⟨y, p2, q2, false, false⟩) := by
        rw [← hV]
        have sv := Save.five w3 b7 (.int .i64 y) (.int .i64 p1) (.int .i64 q1) (.bool false) (.bool false)
        exact ⟨K3.out.1.trans (sv.blw L4.out.2.2.2 K3.out.1.size), K3.out.2.1.five _ _ _ _ _, K3.out.2.2.save (by simp) sv (by omega)⟩
      have HV := Lib.hid zV
      clear zV hV K3 c0 c1 c2 c3 c4 f0 f1 f2 f3 f4
      have HZ := Lib.hid (fun w' (l : Below V.heap.size V w') => HV.out.2.2.below (by simp) l)
      refine Hold.wp_region_hold [.val (.agg #[.int .i64 y, .int .i64 p2, .int .i64 q2, .bool false, .bool false]), .val (.slice (some ad) n c), .val (.slice (some ad) n c), .val (.int .i64 (n : Int)), .val (.int .i64 (((n : Int) - 1))), .val (.int .i64 (k : Int)), .val (.int .i64 (j : Int)), .val (.pointer (some (ad.add j))), .val (.int .i64 m2), .val (.agg #[.int .i64 y, .int .i64 p3, .int .i64 q3, .bool false, .bool false]), .val (.agg #[.int .i64 y, .int .i64 p4, .int .i64 q4, .bool false, .bool false])] (by kernel_rfl) (by kernel_rfl) (by kernel_rfl) ?_ ?_
      · simp only [Hold.fill, Hold.Leave.value]
        refine ⟨?_, ?_, ?_, ?_, ?_, ?_, ?_, ?_, ?_, ?_, ?_, trivial⟩
        · intro gg w' hw hk
          have q0 : w'.cell? ⟨b7 + 1, 0, none⟩ = some (.int .i64 y) := (HZ.out w' hw).at' 0
          have q1 : w'.cell? ⟨b7 + 1, 1, none⟩ = some (.int .i64 p2) := (HZ.out w' hw).at' 1
          have q2 : w'.cell? ⟨b7 + 1, 2, none⟩ = some (.int .i64 q2) := (HZ.out w' hw).at' 2
          have q3 : w'.cell? ⟨b7 + 1, 3, none⟩ = some (.bool false) := (HZ.out w' hw).at' 3
          have q4 : w'.cell? ⟨b7 + 1, 4, none⟩ = some (.bool false) := (HZ.out w' hw).at' 4
          go_simp
          exact ⟨rfl, rfl⟩
        · intro gg w' hw hk
          go_simp
          exact ⟨rfl, rfl⟩
        · intro gg w' hw hk
          go_simp
          exact ⟨rfl, rfl⟩
        · intro gg w' hw hk
          go_simp
          exact ⟨rfl, rfl⟩
        · intro gg w' hw hk
          go_simp
          exact ⟨rfl, rfl⟩
        · intro gg w' hw hk
          go_simp
          exact ⟨rfl, rfl⟩
        · intro gg w' hw hk
          go_simp
          exact ⟨rfl, rfl⟩
        · intro gg w' hw hk
          go_simp
          exact ⟨rfl, rfl⟩
        · intro gg w' hw hk
          have q0 := (HC.out w' (thru HV.out.1 hw)).2
          go_simp
          exact ⟨rfl, rfl⟩
        · intro gg w' hw hk
          go_simp
          exact Hold.stays_call (gwith_is HW.out.2.1 w')
        · intro gg w' hw hk
          go_simp
          exact Hold.stays_call (gwith_is HW.out.2.2 w')
      intro gg w5 k5 hgg
      clear hgg
      simp only [Hold.fill, Hold.Leave.value, List.length_cons, List.length_nil, List.drop_succ_cons, List.drop_zero]
      have z0 := HZ.out w5 k5
      have z1 := HV.out.2.1.below (by simp) k5
      obtain ⟨c0, c1, c2, c3, c4⟩ := sat_of z0
      obtain ⟨f0, f1, f2, f3, f4⟩ := sfr_of z0
      have K5 := Lib.hid (⟨thru HV.out.1 k5, z1, z0⟩ : Below w.heap.size w w5 ∧ Lies w5 b7 (sprow ⟨y, p1, q1, false, false⟩) ∧ Lies w5 (b7 + 1) (sprow ⟨y, p2, q2, false, false⟩))
      clear z0 z1 k5 HZ HV
      go_simp
      go_wp2_with fail
      go_roundw
      case rel =>
        refine ⟨k + 1, by omega, by go_num, Lib.hid ?_⟩
        unfold cumS
        rw [HE.out.1, HE.out.2.1, HE.out.2.2.1, HE.out.2.2.2]
        have sv := Save.five w5 (b7 + 1) (.int .i64 y) (.int .i64 p4) (.int .i64 q4) (.bool false) (.bool false)
        exact ⟨K5.out.1.trans (sv.blw (by have := L4.out.2.2.2; omega) K5.out.1.size), K5.out.2.1.save (by simp) sv (by omega), K5.out.2.2.five _ _ _ _ _⟩
      case measure => simp [intOf]; omega
    · obtain rfl : k = n := by omega
      have h1 := H.out
      unfold cumS at h1
      rw [List.take_of_length_le (by rw [← HN.out.1]; exact Nat.le_refl _), List.take_of_length_le (by rw [List.length_reverse, ← HN.out.1]; exact Nat.le_refl _), most_reverse, least_reverse, HPQ.out.1, HPQ.out.2.1] at h1
      have HE := Lib.hid h1
      clear h1 H hk hle
      obtain ⟨wo, hwo⟩ : ∃ x, x = wr := ⟨_, rfl⟩
      subst hwo
      have HAF := Lib.hid (⟨by have := HPQ.out; have := HY.out; unfold FineS; dsimp only; omega, by show (⟨y, max 0 0, min 0 0, false, false⟩ : Sp) = _; simp, by show (⟨y, max 0 0, min 0 0, false, true⟩ : Sp) = _; simp, by have := HY.out; unfold FineS; dsimp only; omega, by show (⟨y + 0, 0, 0, false, false⟩ : Sp) = _; simp⟩ : FineS ⟨y, P, Q, false, false⟩ ∧ belowS y 0 = ⟨y, 0, 0, false, false⟩ ∧ clearedS y 0 = ⟨y, 0, 0, false, true⟩ ∧ FineS ⟨y, 0, 0, false, true⟩ ∧ fixS ⟨y, 0, 0, false, true⟩ 0 = ⟨y, 0, 0, false, false⟩)
      by_cases hn0 : k = 0
      · have hni : ¬ (0 : Int) < (k : Int) := by omega
        go_upto_region 12 with fail
        have HZ := Lib.hid (fun w' (l : Below wo.heap.size wo w') => (⟨HE.out.2.1.below (by simp) l, HE.out.2.2.below (by simp) l⟩ : Lies w' b7 (sprow ⟨y, P, Q, false, false⟩) ∧ Lies w' (b7 + 1) (sprow ⟨y, P, Q, false, false⟩)))
        refine Hold.wp_region_hold [.val (.agg #[.int .i64 y, .int .i64 P, .int .i64 Q, .bool false, .bool false]), .val (.agg #[.int .i64 y, .int .i64 P, .int .i64 Q, .bool false, .bool false]), .val (.bool true), .val (.bool true), .val (.agg #[.int .i64 y, .int .i64 P, .int .i64 Q, .bool false, .bool false]), .val (.int .i64 ((y + (P + Q)))), .val (.agg #[.int .i64 y, .int .i64 P, .int .i64 Q, .bool false, .bool false]), .val (.int .i64 ((y + (P + Q)))), .val (.bool true), .val (.bool true), .val (.bool true), .val (.int .i64 y), .val (.agg #[.int .i64 y, .int .i64 0, .int .i64 0, .bool false, .bool false]), .val (.int .i64 y), .val (.agg #[.int .i64 y, .int .i64 0, .int .i64 0, .bool false, .bool false]), .val (.bool true), .val (.bool true), .val (.bool true), .val (.int .i64 y), .val (.agg #[.int .i64 y, .int .i64 0, .int .i64 0, .bool false, .bool true]), .val (.agg #[.int .i64 y, .int .i64 0, .int .i64 0, .bool false, .bool false]), .val (.int .i64 y), .val (.agg #[.int .i64 y, .int .i64 0, .int .i64 0, .bool false, .bool false]), .val (.bool true), .val (.bool true)] (by kernel_rfl) (by kernel_rfl) (by kernel_rfl) ?_ ?_
        · simp only [Hold.fill, Hold.Leave.value]
          refine ⟨?_, ?_, ?_, ?_, ?_, ?_, ?_, ?_, ?_, ?_, ?_, ?_, ?_, ?_, ?_, ?_, ?_, ?_, ?_, ?_, ?_, ?_, ?_, ?_, ?_, trivial⟩
          · intro gg w' hw hk
            have q0 : w'.cell? ⟨b7, 0, none⟩ = some (.int .i64 y) := ((HZ.out w' hw).1).at' 0
            have q1 : w'.cell? ⟨b7, 1, none⟩ = some (.int .i64 P) := ((HZ.out w' hw).1).at' 1
            have q2 : w'.cell? ⟨b7, 2, none⟩ = some (.int .i64 Q) := ((HZ.out w' hw).1).at' 2
            have q3 : w'.cell? ⟨b7, 3, none⟩ = some (.bool false) := ((HZ.out w' hw).1).at' 3
            have q4 : w'.cell? ⟨b7, 4, none⟩ = some (.bool false) := ((HZ.out w' hw).1).at' 4
            go_simp
            exact ⟨rfl, rfl⟩
          · intro gg w' hw hk
            have q0 : w'.cell? ⟨b7 + 1, 0, none⟩ = some (.int .i64 y) := ((HZ.out w' hw).2).at' 0
            have q1 : w'.cell? ⟨b7 + 1, 1, none⟩ = some (.int .i64 P) := ((HZ.out w' hw).2).at' 1
            have q2 : w'.cell? ⟨b7 + 1, 2, none⟩ = some (.int .i64 Q) := ((HZ.out w' hw).2).at' 2
            have q3 : w'.cell? ⟨b7 + 1, 3, none⟩ = some (.bool false) := ((HZ.out w' hw).2).at' 3
            have q4 : w'.cell? ⟨b7 + 1, 4, none⟩ = some (.bool false) := ((HZ.out w' hw).2).at' 4
            go_simp
            exact ⟨rfl, rfl⟩
          · intro gg w' hw hk
            go_simp
            exact ⟨rfl, rfl⟩
          · intro gg w' hw hk
            go_simp
            exact ⟨rfl, rfl⟩
          · intro gg w' hw hk
            have q0 : w'.cell? ⟨b7, 0, none⟩ = some (.int .i64 y) := ((HZ.out w' hw).1).at' 0
            have q1 : w'.cell? ⟨b7, 1, none⟩ = some (.int .i64 P) := ((HZ.out w' hw).1).at' 1
            have q2 : w'.cell? ⟨b7, 2, none⟩ = some (.int .i64 Q) := ((HZ.out w' hw).1).at' 2
            have q3 : w'.cell? ⟨b7, 3, none⟩ = some (.bool false) := ((HZ.out w' hw).1).at' 3
            have q4 : w'.cell? ⟨b7, 4, none⟩ = some (.bool false) := ((HZ.out w' hw).1).at' 4
            go_simp
            exact ⟨rfl, rfl⟩
          · intro gg w' hw hk
            go_simp
            exact Hold.stays_call (gat_is HAF.out.1 rfl w')
          · intro gg w' hw hk
            have q0 : w'.cell? ⟨b7 + 1, 0, none⟩ = some (.int .i64 y) := ((HZ.out w' hw).2).at' 0
            have q1 : w'.cell? ⟨b7 + 1, 1, none⟩ = some (.int .i64 P) := ((HZ.out w' hw).2).at' 1
            have q2 : w'.cell? ⟨b7 + 1, 2, none⟩ = some (.int .i64 Q) := ((HZ.out w' hw).2).at' 2
            have q3 : w'.cell? ⟨b7 + 1, 3, none⟩ = some (.bool false) := ((HZ.out w' hw).2).at' 3
            have q4 : w'.cell? ⟨b7 + 1, 4, none⟩ = some (.bool false) := ((HZ.out w' hw).2).at' 4
            go_simp
            exact ⟨rfl, rfl⟩
          · intro gg w' hw hk
            go_simp
            exact Hold.stays_call (gat_is HAF.out.1 rfl w')
          · intro gg w' hw hk
            go_simp
            exact ⟨rfl, rfl⟩
          · intro gg w' hw hk
            go_simp
            exact ⟨rfl, rfl⟩
          · intro gg w' hw hk
            go_simp
            exact ⟨rfl, rfl⟩
          · intro gg w' hw hk
            go_simp
            exact ⟨rfl, rfl⟩
          · intro gg w' hw hk
            go_simp
            exact Hold.stays_call (gbelow_is HAF.out.2.1 w')
          · intro gg w' hw hk
            go_simp
            exact ⟨rfl, rfl⟩
          · intro gg w' hw hk
            go_simp
            exact ⟨rfl, rfl⟩
          · intro gg w' hw hk
            go_simp
            exact ⟨rfl, rfl⟩
          · intro gg w' hw hk
            go_simp
            exact ⟨rfl, rfl⟩
          · intro gg w' hw hk
            go_simp
            exact ⟨rfl, rfl⟩
          · intro gg w' hw hk
            go_simp
            exact ⟨rfl, rfl⟩
          · intro gg w' hw hk
            go_simp
            exact Hold.stays_call (gcleared_is HAF.out.2.2.1 w')
          · intro gg w' hw hk
            go_simp
            exact Hold.stays_call (gfix_is HAF.out.2.2.2.1 (by omega) HAF.out.2.2.2.2 w')
          · intro gg w' hw hk
            go_simp
            exact ⟨rfl, rfl⟩
          · intro gg w' hw hk
            go_simp
            exact ⟨rfl, rfl⟩
          · intro gg w' hw hk
            go_simp
            exact ⟨rfl, rfl⟩
          · intro gg w' hw hk
            go_simp
            exact ⟨rfl, rfl⟩
        intro gg w9 k9 hgg
        clear hgg
        simp only [Hold.fill, Hold.Leave.value, List.length_cons, List.length_nil, List.drop_succ_cons, List.drop_zero]
        go_simp
        go_wp2_with fail
        go_ret
        exact ⟨rfl, thru HE.out.1 k9⟩
      · have hni : (0 : Int) < (k : Int) := by omega
        have hnz : ¬ (k : Int) = 0 := by omega
        obtain ⟨j, hj, hjn⟩ : ∃ j : Nat, cu.tmod (k : Int) = (j : Int) ∧ j < k := by
          have g0 := Int.tmod_nonneg (k : Int) hcu.1
          have g1 := Int.tmod_lt_of_pos cu hni
          exact ⟨(cu.tmod (k : Int)).toNat, by omega, by omega⟩
        have hji : (j : Int) < (k : Int) := by omega
        have hj0 : ¬ (j : Int) < 0 := by omega
        obtain ⟨ad, hA, hadB, hcj⟩ := HX.out j (by rw [← HN.out.1]; exact hjn)
        subst hA
        have e1 := most_again xs j (by rw [← HN.out.1]; exact hjn)
        have e2 := least_again xs j (by rw [← HN.out.1]; exact hjn)
        rw [HPQ.out.1] at e1
        rw [HPQ.out.2.1] at e2
        obtain ⟨m, hm⟩ : ∃ m, xs.getD j 0 = m := ⟨_, rfl⟩
        rw [hm] at e1 e2 hcj
        have HW := Lib.hid (show withS ⟨y, P, Q, false, false⟩ m = ⟨y, P, Q, false, false⟩ by show (⟨y, max P m, min Q m, false, false⟩ : Sp) = _; rw [e1, e2])
        have HC := Lib.hid (fun w' (l : Below w.heap.size w w') => (l.cell (p := ad.add j) (by rw [block_of_add]; exact hadB)).trans hcj)
        clear e1 e2 hm hcj hadB hjn
        go_upto_region 11 with fail
        have HZ := Lib.hid (fun w' (l : Below wo.heap.size wo w') => HE.out.2.2.below (by simp) l)
        refine Hold.wp_region_hold [.val (.agg #[.int .i64 y, .int .i64 P, .int .i64 Q, .bool false, .bool false]), .val (.slice (some ad) k c), .val (.int .u8 cu), .val (.int .i64 cu), .val (.slice (some ad) k c), .val (.int .i64 (k : Int)), .val (.int .i64 (j : Int)), .val (.pointer (some (ad.add j))), .val (.int .i64 m), .val (.agg #[.int .i64 y, .int .i64 P, .int .i64 Q, .bool false, .bool false])] (by kernel_rfl) (by kernel_rfl) (by kernel_rfl) ?_ ?_
        · simp only [Hold.fill, Hold.Leave.value]
          refine ⟨?_, ?_, ?_, ?_, ?_, ?_, ?_, ?_, ?_, ?_, trivial⟩
          · intro gg w' hw hk
            have q0 : w'.cell? ⟨b7 + 1, 0, none⟩ = some (.int .i64 y) := (HZ.out w' hw).at' 0
            have q1 : w'.cell? ⟨b7 + 1, 1, none⟩ = some (.int .i64 P) := (HZ.out w' hw).at' 1
            have q2 : w'.cell? ⟨b7 + 1, 2, none⟩ = some (.int .i64 Q) := (HZ.out w' hw).at' 2
            have q3 : w'.cell? ⟨b7 + 1, 3, none⟩ = some (.bool false) := (HZ.out w' hw).at' 3
            have q4 : w'.cell? ⟨b7 + 1, 4, none⟩ = some (.bool false) := (HZ.out w' hw).at' 4
            go_simp
            exact ⟨rfl, rfl⟩
          · intro gg w' hw hk
            go_simp
            exact ⟨rfl, rfl⟩
          · intro gg w' hw hk
            go_simp
            exact ⟨rfl, rfl⟩
          · intro gg w' hw hk
            go_simp
            exact ⟨rfl, rfl⟩
          · intro gg w' hw hk
            go_simp
            exact ⟨rfl, rfl⟩
          · intro gg w' hw hk
            go_simp
            exact ⟨rfl, rfl⟩
          · intro gg w' hw hk
            go_simp
            exact ⟨rfl, rfl⟩
          · intro gg w' hw hk
            go_simp
            exact ⟨rfl, rfl⟩
          · intro gg w' hw hk
            have q0 := HC.out w' (thru HE.out.1 hw)
            go_simp
            exact ⟨rfl, rfl⟩
          · intro gg w' hw hk
            go_simp
            exact Hold.stays_call (gwith_is HW.out w')
        intro gg w5 k5 hgg
        clear hgg
        simp only [Hold.fill, Hold.Leave.value, List.length_cons, List.length_nil, List.drop_succ_cons, List.drop_zero]
        have z0 := HZ.out w5 k5
        have z1 := HE.out.2.1.below (by simp) k5
        obtain ⟨c0, c1, c2, c3, c4⟩ := sat_of z0
        obtain ⟨f0, f1, f2, f3, f4⟩ := sfr_of z0
        have K5 := Lib.hid (⟨thru HE.out.1 k5, z1, z0⟩ : Below w.heap.size w w5 ∧ Lies w5 b7 (sprow ⟨y, P, Q, false, false⟩) ∧ Lies w5 (b7 + 1) (sprow ⟨y, P, Q, false, false⟩))
        clear z0 z1 k5 HZ HE HC
        go_simp
        go_upto_region 12 with fail
        generalize hV : World.setCell (World.setCell (World.setCell (World.setCell (World.setCell w5 _ _) _ _) _ _) _ _) _ _ = V
        have zV : Below w.heap.size w V ∧ Lies V b7 (sprow ⟨y, P, Q, false, false⟩) ∧ Lies V (b7 + 1) (sprow ⟨y, P, Q, false, false⟩) := by
          rw [← hV]
          have sv := Save.five w5 (b7 + 1) (.int .i64 y) (.int .i64 P) (.int .i64 Q) (.bool false) (.bool false)
          exact ⟨K5.out.1.trans (sv.blw (by have := L4.out.2.2.2; omega) K5.out.1.size), K5.out.2.1.save (by simp) sv (by omega), K5.out.2.2.five _ _ _ _ _⟩
        have HV := Lib.hid zV
        clear zV hV K5 c0 c1 c2 c3 c4 f0 f1 f2 f3 f4
        have HZ := Lib.hid (fun w' (l : Below V.heap.size V w') => (⟨HV.out.2.1.below (by simp) l, HV.out.2.2.below (by simp) l⟩ : Lies w' b7 (sprow ⟨y, P, Q, false, false⟩) ∧ Lies w' (b7 + 1) (sprow ⟨y, P, Q, false, false⟩)))
        refine Hold.wp_region_hold [.val (.agg #[.int .i64 y, .int .i64 P, .int .i64 Q, .bool false, .bool false]), .val (.agg #[.int .i64 y, .int .i64 P, .int .i64 Q, .bool false, .bool false]), .val (.bool true), .val (.bool true), .val (.agg #[.int .i64 y, .int .i64 P, .int .i64 Q, .bool false, .bool false]), .val (.int .i64 ((y + (P + Q)))), .val (.agg #[.int .i64 y, .int .i64 P, .int .i64 Q, .bool false, .bool false]), .val (.int .i64 ((y + (P + Q)))), .val (.bool true), .val (.bool true), .val (.bool true), .val (.int .i64 y), .val (.agg #[.int .i64 y, .int .i64 0, .int .i64 0, .bool false, .bool false]), .val (.int .i64 y), .val (.agg #[.int .i64 y, .int .i64 0, .int .i64 0, .bool false, .bool false]), .val (.bool true), .val (.bool true), .val (.bool true), .val (.int .i64 y), .val (.agg #[.int .i64 y, .int .i64 0, .int .i64 0, .bool false, .bool true]), .val (.agg #[.int .i64 y, .int .i64 0, .int .i64 0, .bool false, .bool false]), .val (.int .i64 y), .val (.agg #[.int .i64 y, .int .i64 0, .int .i64 0, .bool false, .bool false]), .val (.bool true), .val (.bool true)] (by kernel_rfl) (by kernel_rfl) (by kernel_rfl) ?_ ?_
        · simp only [Hold.fill, Hold.Leave.value]
          refine ⟨?_, ?_, ?_, ?_, ?_, ?_, ?_, ?_, ?_, ?_, ?_, ?_, ?_, ?_, ?_, ?_, ?_, ?_, ?_, ?_, ?_, ?_, ?_, ?_, ?_, trivial⟩
          · intro gg w' hw hk
            have q0 : w'.cell? ⟨b7, 0, none⟩ = some (.int .i64 y) := ((HZ.out w' hw).1).at' 0
            have q1 : w'.cell? ⟨b7, 1, none⟩ = some (.int .i64 P) := ((HZ.out w' hw).1).at' 1
            have q2 : w'.cell? ⟨b7, 2, none⟩ = some (.int .i64 Q) := ((HZ.out w' hw).1).at' 2
            have q3 : w'.cell? ⟨b7, 3, none⟩ = some (.bool false) := ((HZ.out w' hw).1).at' 3
            have q4 : w'.cell? ⟨b7, 4, none⟩ = some (.bool false) := ((HZ.out w' hw).1).at' 4
            go_simp
            exact ⟨rfl, rfl⟩
          · intro gg w' hw hk
            have q0 : w'.cell? ⟨b7 + 1, 0, none⟩ = some (.int .i64 y) := ((HZ.out w' hw).2).at' 0
            have q1 : w'.cell? ⟨b7 + 1, 1, none⟩ = some (.int .i64 P) := ((HZ.out w' hw).2).at' 1
            have q2 : w'.cell? ⟨b7 + 1, 2, none⟩ = some (.int .i64 Q) := ((HZ.out w' hw).2).at' 2
            have q3 : w'.cell? ⟨b7 + 1, 3, none⟩ = some (.bool false) := ((HZ.out w' hw).2).at' 3
            have q4 : w'.cell? ⟨b7 + 1, 4, none⟩ = some (.bool false) := ((HZ.out w' hw).2).at' 4
            go_simp
            exact ⟨rfl, rfl⟩
          · intro gg w' hw hk
            go_simp
            exact ⟨rfl, rfl⟩
          · intro gg w' hw hk
            go_simp
            exact ⟨rfl, rfl⟩
          · intro gg w' hw hk
            have q0 : w'.cell? ⟨b7, 0, none⟩ = some (.int .i64 y) := ((HZ.out w' hw).1).at' 0
            have q1 : w'.cell? ⟨b7, 1, none⟩ = some (.int .i64 P) := ((HZ.out w' hw).1).at' 1
            have q2 : w'.cell? ⟨b7, 2, none⟩ = some (.int .i64 Q) := ((HZ.out w' hw).1).at' 2
            have q3 : w'.cell? ⟨b7, 3, none⟩ = some (.bool false) := ((HZ.out w' hw).1).at' 3
            have q4 : w'.cell? ⟨b7, 4, none⟩ = some (.bool false) := ((HZ.out w' hw).1).at' 4
            go_simp
            exact ⟨rfl, rfl⟩
          · intro gg w' hw hk
            go_simp
            exact Hold.stays_call (gat_is HAF.out.1 rfl w')
          · intro gg w' hw hk
            have q0 : w'.cell? ⟨b7 + 1, 0, none⟩ = some (.int .i64 y) := ((HZ.out w' hw).2).at' 0
            have q1 : w'.cell? ⟨b7 + 1, 1, none⟩ = some (.int .i64 P) := ((HZ.out w' hw).2).at' 1
            have q2 : w'.cell? ⟨b7 + 1, 2, none⟩ = some (.int .i64 Q) := ((HZ.out w' hw).2).at' 2
            have q3 : w'.cell? ⟨b7 + 1, 3, none⟩ = some (.bool false) := ((HZ.out w' hw).2).at' 3
            have q4 : w'.cell? ⟨b7 + 1, 4, none⟩ = some (.bool false) := ((HZ.out w' hw).2).at' 4
            go_simp
            exact ⟨rfl, rfl⟩
          · intro gg w' hw hk
            go_simp
            exact Hold.stays_call (gat_is HAF.out.1 rfl w')
          · intro gg w' hw hk
            go_simp
            exact ⟨rfl, rfl⟩
          · intro gg w' hw hk
            go_simp
            exact ⟨rfl, rfl⟩
          · intro gg w' hw hk
            go_simp
            exact ⟨rfl, rfl⟩
          · intro gg w' hw hk
            go_simp
            exact ⟨rfl, rfl⟩
          · intro gg w' hw hk
            go_simp
            exact Hold.stays_call (gbelow_is HAF.out.2.1 w')
          · intro gg w' hw hk
            go_simp
            exact ⟨rfl, rfl⟩
          · intro gg w' hw hk
            go_simp
            exact ⟨rfl, rfl⟩
          · intro gg w' hw hk
            go_simp
            exact ⟨rfl, rfl⟩
          · intro gg w' hw hk
            go_simp
            exact ⟨rfl, rfl⟩
          · intro gg w' hw hk
            go_simp
            exact ⟨rfl, rfl⟩
          · intro gg w' hw hk
            go_simp
            exact ⟨rfl, rfl⟩
          · intro gg w' hw hk
            go_simp
            exact Hold.stays_call (gcleared_is HAF.out.2.2.1 w')
          · intro gg w' hw hk
            go_simp
            exact Hold.stays_call (gfix_is HAF.out.2.2.2.1 (by omega) HAF.out.2.2.2.2 w')
          · intro gg w' hw hk
            go_simp
            exact ⟨rfl, rfl⟩
          · intro gg w' hw hk
            go_simp
            exact ⟨rfl, rfl⟩
          · intro gg w' hw hk
            go_simp
            exact ⟨rfl, rfl⟩
          · intro gg w' hw hk
            go_simp
            exact ⟨rfl, rfl⟩
        intro gg w9 k9 hgg
        clear hgg
        simp only [Hold.fill, Hold.Leave.value, List.length_cons, List.length_nil, List.drop_succ_cons, List.drop_zero]
        go_simp
        go_wp2_with fail
        go_ret
        exact ⟨rfl, thru HV.out.1 k9⟩

theorem zero_any (y : Int) (A : Option Addr) (n c : Nat) (xs : List Int) (cu : Int) (hcu : 0 ≤ cu ∧ cu ≤ 255) (w : World) (hn : n = xs.length) (hc : n ≤ c) (hz : A = none → c = 0) (hx : Nums w w.heap.size A xs) :
    Calls Try.prog 6 #[.int .i64 y, .slice A n c, .int .u8 cu] w fun e w' => e = .returned (.bool true) ∧ Below w.heap.size w w' := by
  by_cases h20 : n ≤ 20
  · cases hs : ([y] ++ xs).all in50 with
    | false => exact zero_no y A n c xs cu hcu w hn hc hz hx h20 hs
    | true => exact zero_yes y A n c xs cu hcu w hn hc hz hx h20 hs
  · exact zero_long y A n c xs cu hcu w hn hc hz hx h20

end Go.Proofs.Ytkjbimoflmkekaa.Spot
