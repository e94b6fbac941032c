/- The law: what stands at a spot ends all margins; an edge moves only what comes below. -/
import Derived.Test.YtkjbimoflmkekaaSpotGSmall
namespace Go.Proofs.Ytkjbimoflmkekaa.Spot
open Go.RowKit Go.Sort Go.Proofs.Ytkjbimoflmkekaa.Strut Go.Proofs.Ytkjbimoflmkekaa.More
set_option linter.unusedVariables false
set_option linter.unusedSimpArgs false

set_option maxRecDepth 100000 in
set_option maxHeartbeats 800000 in
theorem fixes_long1 (y : Int) (A : Option Addr) (n c : Nat) (xs : List Int) (A2 : Option Addr) (n2 c2 : Nat) (ys : List Int) (d : Int) (w : World) (hn : n = xs.length) (hc : n ≤ c) (hz : A = none → c = 0) (hx : Nums w w.heap.size A xs) (hn2 : n2 = ys.length) (hc2 : n2 ≤ c2) (hz2 : A2 = none → c2 = 0) (hx2 : Nums w w.heap.size A2 ys) (h20 : ¬ n ≤ 20) :
    Calls Try.prog 5 #[.int .i64 y, .slice A n c, .slice A2 n2 c2, .int .i64 d] w fun e w' => e = .returned (.bool true) ∧ Below w.heap.size w w' := by
  have h21 : (20 : Int) < (n : Int) := by omega
  clear hx hn hc hz hx2 hn2 hc2 hz2
  go_enter Try.func5, Try.ntmps5
  go_wp2_with fail
  refine (gspeaks w).mono ?_; rintro e w1 ⟨rfl, b1⟩
  go_wp2_with fail
  refine (gspeaks w1).mono ?_; rintro e w2 ⟨rfl, b2⟩
  go_wp2_with fail
  go_ret
  exact ⟨rfl, thru b1 b2⟩

set_option maxRecDepth 100000 in
set_option maxHeartbeats 800000 in
theorem fixes_long2 (y : Int) (A : Option Addr) (n c : Nat) (xs : List Int) (A2 : Option Addr) (n2 c2 : Nat) (ys : List Int) (d : Int) (w : World) (hn : n = xs.length) (hc : n ≤ c) (hz : A = none → c = 0) (hx : Nums w w.heap.size A xs) (hn2 : n2 = ys.length) (hc2 : n2 ≤ c2) (hz2 : A2 = none → c2 = 0) (hx2 : Nums w w.heap.size A2 ys) (h20 : n ≤ 20) (h30 : ¬ n2 ≤ 20) :
    Calls Try.prog 5 #[.int .i64 y, .slice A n c, .slice A2 n2 c2, .int .i64 d] w fun e w' => e = .returned (.bool true) ∧ Below w.heap.size w w' := by
  have h21 : ¬ (20 : Int) < (n : Int) := by omega
  have h31 : (20 : Int) < (n2 : Int) := by omega
  clear hx hn hc hz hx2 hn2 hc2 hz2
  go_enter Try.func5, Try.ntmps5
  go_wp2_with fail
  refine (gspeaks w).mono ?_; rintro e w1 ⟨rfl, b1⟩
  go_wp2_with fail
  refine (gspeaks w1).mono ?_; rintro e w2 ⟨rfl, b2⟩
  go_wp2_with fail
  go_ret
  exact ⟨rfl, thru b1 b2⟩

theorem two_mine (w : World) (B : Nat) (hB : B ≤ w.heap.size) (m n : Int) : Mine (w.alloc (.cells #[.int .i64 m, .int .i64 n] 3)) B (some ⟨w.heap.size, 0, none⟩) 2 2 [m, n] :=
  World.ownsRow_lit w #[.int .i64 m, .int .i64 n] 2 hB (by unfold maxLen; omega) rfl

set_option maxRecDepth 100000 in
set_option maxHeartbeats 800000 in
theorem fixes_no (y : Int) (A : Option Addr) (n c : Nat) (xs : List Int) (A2 : Option Addr) (n2 c2 : Nat) (ys : List Int) (d : Int) (w : World) (hn : n = xs.length) (hc : n ≤ c) (hz : A = none → c = 0) (hx : Nums w w.heap.size A xs) (hn2 : n2 = ys.length) (hc2 : n2 ≤ c2) (hz2 : A2 = none → c2 = 0) (hx2 : Nums w w.heap.size A2 ys) (h20 : n ≤ 20) (h30 : n2 ≤ 20) (hs : ([y, d] ++ xs ++ ys).all in50 = false) :
    Calls Try.prog 5 #[.int .i64 y, .slice A n c, .slice A2 n2 c2, .int .i64 d] w fun e w' => e = .returned (.bool true) ∧ Below w.heap.size w w' := by
  have h21 : ¬ (20 : Int) < (n : Int) := by omega
  have h31 : ¬ (20 : Int) < (n2 : Int) := by omega
  have HS := Lib.hid (fun w' (j : Below w.heap.size w w') => nums_src (hx.thru j) hn hz)
  have HS2 := Lib.hid (fun w' (j : Below w.heap.size w w') => nums_src (hx2.thru j) hn2 hz2)
  have HF := Lib.hid hs
  have HN := Lib.hid (⟨hn, h20, hn2, h30⟩ : n = xs.length ∧ n ≤ 20 ∧ n2 = ys.length ∧ n2 ≤ 20)
  clear hx hn hc hz hx2 hn2 hc2 hz2 hs h20 h30
  go_enter Try.func5, Try.ntmps5
  go_wp2_with fail
  refine (gspeaks w).mono ?_; rintro e w1 ⟨rfl, b1⟩
  have hbs := b1.size
  go_wp2_with (first
    | (at_builtin; refine wpList_append_on _ (by go_simp) (.tmp 31) (.tmp 32) rfl w1.heap.size (some ⟨w1.heap.size, 0, none⟩) 2 2 [y, d] rfl (two_mine w1 w1.heap.size (Nat.le_refl _) y d) A n c xs rfl (HS.out _ (thru b1 (ba1 w1 _))) (by have := HN.out; omega) (by simp) ?_; intro A1 c1 W1 h1; have G1 := Lib.hid (⟨h1.1, h1.below (two_mine w1 w1.heap.size (Nat.le_refl _) y d) (ba1 w1 _) (Nat.le_refl _) (by simp)⟩ : Mine W1 w1.heap.size A1 (2 + n) c1 ([y, d] ++ xs) ∧ Below w1.heap.size w1 W1); clear h1)
    | (at_builtin; refine wpList_append_on _ (by go_simp) (.tmp 33) (.tmp 34) rfl w1.heap.size A1 (2 + n) c1 ([y, d] ++ xs) rfl G1.out.1 A2 n2 c2 ys rfl (HS2.out _ (thru b1 G1.out.2)) (by have := HN.out; omega) G1.out.2.size ?_; intro A4 c4 W2 h2; have G2 := Lib.hid (⟨h2.1, thru b1 (h2.below G1.out.1 G1.out.2 (Nat.le_refl _) G1.out.2.size)⟩ : Mine W2 w1.heap.size A4 (2 + n + n2) c4 ([y, d] ++ xs ++ ys) ∧ Below w.heap.size w W2); clear h2)
    | (go_at_call 8; refine (gsmall_is A4 (2 + n + n2) c4 ([y, d] ++ xs ++ ys) W2 (by have := HN.out; simp; omega) (by have := HN.out; omega) W2.heap.size (Mine.nums G2.out.1) _ HF.out).mono ?_; rintro e w2 ⟨rfl, rfl⟩))
  refine (gspeaks _).mono ?_; rintro e w2 ⟨rfl, b2⟩
  go_wp2_with fail
  go_ret
  exact ⟨rfl, thru G2.out.2 b2⟩

set_option maxRecDepth 100000 in
set_option maxHeartbeats 4000000 in
theorem fixes_yes (y : Int) (A : Option Addr) (n c : Nat) (xs : List Int) (A2 : Option Addr) (n2 c2 : Nat) (ys : List Int) (d : Int) (w : World) (hn : n = xs.length) (hc : n ≤ c) (hz : A = none → c = 0) (hx : Nums w w.heap.size A xs) (hn2 : n2 = ys.length) (hc2 : n2 ≤ c2) (hz2 : A2 = none → c2 = 0) (hx2 : Nums w w.heap.size A2 ys) (h20 : n ≤ 20) (h30 : n2 ≤ 20) (hs : ([y, d] ++ xs ++ ys).all in50 = true) :
    Calls Try.prog 5 #[.int .i64 y, .slice A n c, .slice A2 n2 c2, .int .i64 d] w fun e w' => e = .returned (.bool true) ∧ Below w.heap.size w w' := by
  have h21 : ¬ (20 : Int) < (n : Int) := by omega
  have h31 : ¬ (20 : Int) < (n2 : Int) := by omega
  have HS := Lib.hid (fun w' (j : Below w.heap.size w w') => nums_src (hx.thru j) hn hz)
  have HS2 := Lib.hid (fun w' (j : Below w.heap.size w w') => nums_src (hx2.thru j) hn2 hz2)
  have HF := Lib.hid hs
  have HN := Lib.hid (⟨hn, h20, hn2, h30⟩ : n = xs.length ∧ n ≤ 20 ∧ n2 = ys.length ∧ n2 ≤ 20)
  have HX := Lib.hid hx
  have HX2 := Lib.hid hx2
  have hall : in50 y = true ∧ in50 d = true ∧ xs.all in50 = true ∧ ys.all in50 = true := by
    simp only [List.all_append, List.all_cons, List.all_nil, Bool.and_eq_true, Bool.and_true] at hs
    exact ⟨hs.1.1.1, hs.1.1.2, hs.1.2, hs.2⟩
  have hy := in50_iff.1 hall.1
  have hd := in50_iff.1 hall.2.1
  have hb1 := most50 xs hall.2.2.1
  have hb2 := least50 xs hall.2.2.1
  have hb3 := most50 ys hall.2.2.2
  have hb4 := least50 ys hall.2.2.2
  have HAY := Lib.hid hall.2.2.2
  obtain ⟨P, hP⟩ : ∃ P, Strut.mostOf xs = P := ⟨_, rfl⟩
  obtain ⟨Q, hQ⟩ : ∃ Q, Strut.leastOf xs = Q := ⟨_, rfl⟩
  obtain ⟨P2, hP2⟩ : ∃ P, Strut.mostOf ys = P := ⟨_, rfl⟩
  obtain ⟨Q2, hQ2⟩ : ∃ Q, Strut.leastOf ys = Q := ⟨_, rfl⟩
  rw [hP] at hb1
  rw [hQ] at hb2
  rw [hP2] at hb3
  rw [hQ2] at hb4
  obtain ⟨a, ha⟩ : ∃ a, y + (P + Q) = a := ⟨_, rfl⟩
  obtain ⟨F, hF⟩ : ∃ F, a + d = F := ⟨_, rfl⟩
  obtain ⟨S2, hS2⟩ : ∃ S2, P2 + Q2 = S2 := ⟨_, rfl⟩
  obtain ⟨R, hR⟩ : ∃ R, F + S2 = R := ⟨_, rfl⟩
  have hwF : IntKind.i64.wrap (a + d) = F := by rw [← hF]; exact IntWalk.i64_in _ (by omega)
  have hwR : IntKind.i64.wrap (F + S2) = R := by rw [← hR]; exact IntWalk.i64_in _ (by omega)
  have HPQ := Lib.hid (⟨hP, hQ, hP2, hQ2, hS2⟩ : Strut.mostOf xs = P ∧ Strut.leastOf xs = Q ∧ Strut.mostOf ys = P2 ∧ Strut.leastOf ys = Q2 ∧ P2 + Q2 = S2)
  have HAT := Lib.hid (⟨⟨by unfold FineS; dsimp only; omega, by show y + (P + Q) = a; exact ha⟩, ⟨by unfold FineS; dsimp only; omega, by show F + (0 + 0) = F; omega⟩, ⟨by unfold FineS; dsimp only; omega, by show F + (P2 + Q2) = R; omega⟩⟩ : (FineS ⟨y, P, Q, false, false⟩ ∧ atS ⟨y, P, Q, false, false⟩ = a) ∧ (FineS ⟨F, 0, 0, false, false⟩ ∧ atS ⟨F, 0, 0, false, false⟩ = F) ∧ (FineS ⟨F, P2, Q2, false, false⟩ ∧ atS ⟨F, P2, Q2, false, false⟩ = R))
  have hdb : -1152921504606846976 ≤ d ∧ d ≤ 1152921504606846976 := by omega
  have HFX := Lib.hid (⟨hdb, by show (⟨y + (P + Q) + d, 0, 0, false, false⟩ : Sp) = _; rw [ha, hF], by show (⟨y + (P + Q) + 0, 0, 0, false, false⟩ : Sp) = _; rw [ha]; simp, by unfold FineS; dsimp only; omega, by show (⟨a + (0 + 0) + d, 0, 0, false, false⟩ : Sp) = _; rw [show a + (0 + 0) + d = F by omega], by show (⟨F, max P2 0, min Q2 0, false, false⟩ : Sp) = _; rw [show max P2 0 = P2 by omega, show min Q2 0 = Q2 by omega]⟩ : (-1152921504606846976 ≤ d ∧ d ≤ 1152921504606846976) ∧ fixS ⟨y, P, Q, false, false⟩ d = ⟨F, 0, 0, false, false⟩ ∧ fixS ⟨y, P, Q, false, false⟩ 0 = ⟨a, 0, 0, false, false⟩ ∧ FineS ⟨a, 0, 0, false, false⟩ ∧ fixS ⟨a, 0, 0, false, false⟩ d = ⟨F, 0, 0, false, false⟩ ∧ passS ⟨F, P2, Q2, false, false⟩ 0 = ⟨F, P2, Q2, false, false⟩)
  clear hx hc hz hx2 hc2 hz2 hs h20 h30 hn hn2 hall hy hd hb1 hb2 hb3 hb4 hP hQ hP2 hQ2 ha hF hS2 hR hdb
  go_enter Try.func5, Try.ntmps5
  go_wp2_with fail
  refine (gspeaks w).mono ?_; rintro e w1 ⟨rfl, b1⟩
  have hbs := b1.size
  go_upto_region 4 with (first
    | (at_builtin; refine wpList_append_on _ (by go_simp) (.tmp 31) (.tmp 32) rfl w1.heap.size (some ⟨w1.heap.size, 0, none⟩) 2 2 [y, d] rfl (two_mine w1 w1.heap.size (Nat.le_refl _) y d) A n c xs rfl (HS.out _ (thru b1 (ba1 w1 _))) (by have := HN.out; omega) (by simp) ?_; intro A1 c1 W1 h1; have G1 := Lib.hid (⟨h1.1, h1.below (two_mine w1 w1.heap.size (Nat.le_refl _) y d) (ba1 w1 _) (Nat.le_refl _) (by simp)⟩ : Mine W1 w1.heap.size A1 (2 + n) c1 ([y, d] ++ xs) ∧ Below w1.heap.size w1 W1); clear h1)
    | (at_builtin; refine wpList_append_on _ (by go_simp) (.tmp 33) (.tmp 34) rfl w1.heap.size A1 (2 + n) c1 ([y, d] ++ xs) rfl G1.out.1 A2 n2 c2 ys rfl (HS2.out _ (thru b1 G1.out.2)) (by have := HN.out; omega) G1.out.2.size ?_; intro A4 c4 W2 h2; have G2 := Lib.hid (⟨h2.1, thru b1 (h2.below G1.out.1 G1.out.2 (Nat.le_refl _) G1.out.2.size)⟩ : Mine W2 w1.heap.size A4 (2 + n + n2) c4 ([y, d] ++ xs ++ ys) ∧ Below w.heap.size w W2); clear h2)
    | (go_at_call 8; refine (gsmall_is A4 (2 + n + n2) c4 ([y, d] ++ xs ++ ys) W2 (by have := HN.out; simp; omega) (by have := HN.out; omega) W2.heap.size (Mine.nums G2.out.1) _ HF.out).mono ?_; rintro e w2 ⟨rfl, rfl⟩))
  generalize hW : World.alloc _ _ = W
  have L3 := Lies.new W2 (sprow (cumS y xs 0)) 27
  replace L3 := (show Lies W W2.heap.size (sprow (cumS y xs 0)) ∧ Below W2.heap.size W2 W by rw [← hW]; exact ⟨L3, ba1 _ _⟩)
  obtain ⟨b9, hb9⟩ : ∃ b9, W2.heap.size = b9 := ⟨_, rfl⟩
  have hlo : w.heap.size ≤ b9 := by rw [← hb9]; exact G2.out.2.size
  have L4 := Lib.hid (⟨thru G2.out.2 L3.2, by rw [← hb9]; exact L3.1⟩ : Below w.heap.size w W ∧ Lies W b9 (sprow (cumS y xs 0)))
  have HB := Lib.hid hlo
  rw [hb9]
  clear hW L3 hb9 hlo G1 G2 HS HS2 HF b1 hbs
  go_wp2_with fail
  go_loopw [44] (fun i wr => ∃ k : Nat, k ≤ n ∧ i = .int .i64 (k : Int) ∧ Hid (Below w.heap.size w wr ∧ Lies wr b9 (sprow (cumS y xs k)) ∧ True)) (fun i _ => n - (intOf i).toNat)
  case atStart => exact ⟨0, Nat.zero_le _, rfl, Lib.hid ⟨L4.out.1, L4.out.2, trivial⟩⟩
  case round =>
    obtain ⟨k, hk, rfl, H⟩ := hrel
    by_cases hlt : k < n
    · have hki : (k : Int) < (n : Int) := by omega
      have hk0 : ¬ (k : Int) < 0 := by omega
      have hwk : IntKind.i64.wrap ((k : Int) + 1) = (k : Int) + 1 := by have := HN.out; exact IntWalk.i64_in _ (by omega)
      obtain ⟨ad, hA, hadB, hcx⟩ := HX.out k (by have := HN.out; omega)
      subst hA
      obtain ⟨p, hp⟩ : ∃ p, Strut.mostOf (xs.take k) = p := ⟨_, rfl⟩
      obtain ⟨q, hq⟩ : ∃ q, Strut.leastOf (xs.take k) = q := ⟨_, rfl⟩
      have e1 := mostOf_take xs k (by have := HN.out; omega)
      have e2 := leastOf_take xs k (by have := HN.out; omega)
      obtain ⟨m, hm⟩ : ∃ m, xs.getD k 0 = m := ⟨_, rfl⟩
      rw [hm] at e1 e2 hcx
      rw [hp] at e1
      rw [hq] at e2
      obtain ⟨p1, hp1⟩ : ∃ z, max p m = z := ⟨_, rfl⟩
      obtain ⟨q1, hq1⟩ : ∃ z, min q m = z := ⟨_, rfl⟩
      rw [hp1] at e1
      rw [hq1] at e2
      have HW := Lib.hid (by show (⟨y, max p m, min q m, false, false⟩ : Sp) = _; rw [hp1, hq1] : withS ⟨y, p, q, false, false⟩ m = ⟨y, p1, q1, false, false⟩)
      have HE := Lib.hid (⟨e1, e2⟩ : Strut.mostOf (xs.take (k + 1)) = p1 ∧ Strut.leastOf (xs.take (k + 1)) = q1)
      have H1 := H.out
      unfold cumS at H1
      rw [hp, hq] at H1
      have c9 := (H1.1.cell (p := ad.add k) (by rw [block_of_add]; exact hadB)).trans hcx
      obtain ⟨c0, c1, c2, c3, c4⟩ := sat_of H1.2.1
      have HH := Lib.hid H1
      clear H H1 hp hq hp1 hq1 e1 e2 hm hcx hadB
      go_wp2_with (first
        | (go_at_call 9; refine (gwith_is HW.out wr).mono ?_; rintro e w3 ⟨rfl, k3⟩; clear c0 c1 c2 c3 c4 c9; have z0 := HH.out.2.1.below (by simp) k3; obtain ⟨c0, c1, c2, c3, c4⟩ := sat_of z0; obtain ⟨f0, f1, f2, f3, f4⟩ := sfr_of z0; have K3 := Lib.hid (⟨thru HH.out.1 k3, z0, trivial⟩ : Below w.heap.size w w3 ∧ Lies w3 b9 (sprow ⟨y, p, q, false, false⟩) ∧ True); clear k3 z0 HH))
      go_roundw
      case rel =>
        refine ⟨k + 1, by omega, by go_num, Lib.hid ?_⟩
        unfold cumS
        rw [HE.out.1, HE.out.2]
        have sv := Save.five w3 (b9) (.int .i64 y) (.int .i64 p1) (.int .i64 q1) (.bool false) (.bool false)
        exact ⟨K3.out.1.trans (sv.blw (by have := HB.out; omega) K3.out.1.size), K3.out.2.1.five _ _ _ _ _, trivial⟩
      case measure => simp [intOf]; omega
    · obtain rfl : k = n := by omega
      have h1 := H.out
      unfold cumS at h1
      rw [List.take_of_length_le (by have := HN.out; omega)] at h1
      rw [HPQ.out.1, HPQ.out.2.1] at h1
      have HE := Lib.hid (⟨h1.1, h1.2.1⟩ : Below w.heap.size w wr ∧ Lies wr b9 (sprow ⟨y, P, Q, false, false⟩))
      obtain ⟨c0, c1, c2, c3, c4⟩ := sat_of h1.2.1
      clear h1 H hk L4
      obtain ⟨wo, hwo⟩ : ∃ x, x = wr := ⟨_, rfl⟩
      subst hwo
      go_upto_region 10 with (first
        | (go_at_call 11; refine (gfix_is HAT.out.1.1 HFX.out.1 HFX.out.2.1 wo).mono ?_; rintro e w3 ⟨rfl, k3⟩; have E3 := Lib.hid (⟨thru HE.out.1 k3, HE.out.2.below (by simp) k3⟩ : Below w.heap.size w w3 ∧ Lies w3 b9 (sprow ⟨y, P, Q, false, false⟩)); clear k3 c0 c1 c2 c3 c4))
      generalize hW : World.alloc _ _ = W4
      have L3 := Lies.new w3 (sprow ⟨F, 0, 0, false, false⟩) 27
      replace L3 := (show Lies W4 w3.heap.size (sprow ⟨F, 0, 0, false, false⟩) ∧ Below w3.heap.size w3 W4 by rw [← hW]; exact ⟨L3, ba1 _ _⟩)
      obtain ⟨b12, hb12⟩ : ∃ b, w3.heap.size = b := ⟨_, rfl⟩
      have hne : b9 ≠ b12 := by have := E3.out.2.lt (by simp); omega
      have E4 := Lib.hid (⟨thru E3.out.1 L3.2, E3.out.2.below (by simp) L3.2, by rw [← hb12]; exact L3.1⟩ : Below w.heap.size w W4 ∧ Lies W4 b9 (sprow ⟨y, P, Q, false, false⟩) ∧ Lies W4 b12 (sprow ⟨F, 0, 0, false, false⟩))
      have HB2 := Lib.hid (⟨HB.out, by rw [← hb12]; exact E3.out.1.size, hne⟩ : w.heap.size ≤ b9 ∧ w.heap.size ≤ b12 ∧ b9 ≠ b12)
      rw [hb12]
      clear hW L3 hb12 hne E3 HE HB
      have HZ := Lib.hid (fun w' (l : Below W4.heap.size W4 w') => (⟨E4.out.2.1.below (by simp) l, E4.out.2.2.below (by simp) l⟩ : Lies w' b9 (sprow ⟨y, P, Q, false, false⟩) ∧ Lies w' b12 (sprow ⟨F, 0, 0, false, false⟩)))
      refine HoldAll.wp_region_hold_all [.val (.pointer (some ⟨b12, 0, none⟩)), .val (.int .i64 F), .val (.agg #[.int .i64 y, .int .i64 P, .int .i64 Q, .bool false, .bool false]), .val (.int .i64 a), .val (.int .i64 d), .val (.int .i64 F), .val (.bool false), .val (.bool false), .val (.pointer (some ⟨b12, 1, none⟩)), .val (.agg #[.int .i64 0, .int .i64 0]), .val (.agg #[.int .i64 0, .int .i64 0]), .val (.bool false), .val (.bool false), .val (.bool false), .val (.agg #[.int .i64 F, .int .i64 0, .int .i64 0, .bool false, .bool false]), .val (.int .i64 F), .val (.pointer (some ⟨b12, 0, none⟩)), .val (.int .i64 F), .val (.bool false), .val (.bool false), .val (.bool false), .val (.pointer (some ⟨b12, 3, none⟩)), .val (.bool false), .val (.bool false), .val (.bool false), .val (.pointer (some ⟨b12, 4, none⟩)), .val (.bool false), .val (.bool false)] (by kernel_rfl) (by kernel_rfl) (by kernel_rfl) ?_ ?_
      · simp only [Hold.fill, Hold.Leave.value]
        refine ⟨?_, ?_, ?_, ?_, ?_, ?_, ?_, ?_, ?_, ?_, ?_, ?_, ?_, ?_, ?_, ?_, ?_, ?_, ?_, ?_, ?_, ?_, ?_, ?_, ?_, ?_, ?_, ?_, trivial⟩
        · intro gg w' hw hk
          go_simp
          exact ⟨rfl, rfl⟩
        · intro gg w' hw hk
          have q0 : w'.cell? ⟨b12, 0, none⟩ = some (.int .i64 F) := ((HZ.out w' hw).2).at' 0
          go_simp
          exact ⟨rfl, rfl⟩
        · intro gg w' hw hk
          have q0 : w'.cell? ⟨b9, 0, none⟩ = some (.int .i64 y) := ((HZ.out w' hw).1).at' 0
          have q1 : w'.cell? ⟨b9, 1, none⟩ = some (.int .i64 P) := ((HZ.out w' hw).1).at' 1
          have q2 : w'.cell? ⟨b9, 2, none⟩ = some (.int .i64 Q) := ((HZ.out w' hw).1).at' 2
          have q3 : w'.cell? ⟨b9, 3, none⟩ = some (.bool false) := ((HZ.out w' hw).1).at' 3
          have q4 : w'.cell? ⟨b9, 4, none⟩ = some (.bool false) := ((HZ.out w' hw).1).at' 4
          go_simp
          exact ⟨rfl, rfl⟩
        · intro gg w' hw hk
          go_simp
          exact Hold.stays_call (gat_is HAT.out.1.1 HAT.out.1.2 w')
        · intro gg w' hw hk
          go_simp
          exact ⟨rfl, rfl⟩
        · intro gg w' hw hk
          go_simp
          exact ⟨rfl, rfl⟩
        · intro gg w' hw hk
          go_simp
          exact ⟨rfl, rfl⟩
        · intro gg w' hw hk
          go_simp
          exact ⟨rfl, rfl⟩
        · intro gg w' hw hk
          go_simp
          exact ⟨rfl, rfl⟩
        · intro gg w' hw hk
          have q0 : w'.cell? ⟨b12, 1, none⟩ = some (.int .i64 0) := ((HZ.out w' hw).2).at' 1
          have q1 : w'.cell? ⟨b12, 2, none⟩ = some (.int .i64 0) := ((HZ.out w' hw).2).at' 2
          go_simp
          exact ⟨rfl, rfl⟩
        · intro gg w' hw hk
          go_simp
          exact ⟨rfl, rfl⟩
        · intro gg w' hw hk
          go_simp
          exact ⟨rfl, rfl⟩
        · intro gg w' hw hk
          go_simp
          exact ⟨rfl, rfl⟩
        · intro gg w' hw hk
          go_simp
          exact ⟨rfl, rfl⟩
        · intro gg w' hw hk
          have q0 : w'.cell? ⟨b12, 0, none⟩ = some (.int .i64 F) := ((HZ.out w' hw).2).at' 0
          have q1 : w'.cell? ⟨b12, 1, none⟩ = some (.int .i64 0) := ((HZ.out w' hw).2).at' 1
          have q2 : w'.cell? ⟨b12, 2, none⟩ = some (.int .i64 0) := ((HZ.out w' hw).2).at' 2
          have q3 : w'.cell? ⟨b12, 3, none⟩ = some (.bool false) := ((HZ.out w' hw).2).at' 3
          have q4 : w'.cell? ⟨b12, 4, none⟩ = some (.bool false) := ((HZ.out w' hw).2).at' 4
          go_simp
          exact ⟨rfl, rfl⟩
        · intro gg w' hw hk
          go_simp
          exact Hold.stays_call (gat_is HAT.out.2.1.1 HAT.out.2.1.2 w')
        · intro gg w' hw hk
          go_simp
          exact ⟨rfl, rfl⟩
        · intro gg w' hw hk
          have q0 : w'.cell? ⟨b12, 0, none⟩ = some (.int .i64 F) := ((HZ.out w' hw).2).at' 0
          go_simp
          exact ⟨rfl, rfl⟩
        · intro gg w' hw hk
          go_simp
          exact ⟨rfl, rfl⟩
        · intro gg w' hw hk
          go_simp
          exact ⟨rfl, rfl⟩
        · intro gg w' hw hk
          go_simp
          exact ⟨rfl, rfl⟩
        · intro gg w' hw hk
          go_simp
          exact ⟨rfl, rfl⟩
        · intro gg w' hw hk
          have q0 : w'.cell? ⟨b12, 3, none⟩ = some (.bool false) := ((HZ.out w' hw).2).at' 3
          go_simp
          exact ⟨rfl, rfl⟩
        · intro gg w' hw hk
          go_simp
          exact ⟨rfl, rfl⟩
        · intro gg w' hw hk
          go_simp
          exact ⟨rfl, rfl⟩
        · intro gg w' hw hk
          go_simp
          exact ⟨rfl, rfl⟩
        · intro gg w' hw hk
          have q0 : w'.cell? ⟨b12, 4, none⟩ = some (.bool false) := ((HZ.out w' hw).2).at' 4
          go_simp
          exact ⟨rfl, rfl⟩
        · intro gg w' hw hk
          go_simp
          exact ⟨rfl, rfl⟩
      intro gg w5 k5 hgg
      clear hgg
      simp only [Hold.fill, Hold.Leave.value]
      have E5 := Lib.hid (⟨thru E4.out.1 k5, (HZ.out w5 k5).1, (HZ.out w5 k5).2⟩ : Below w.heap.size w w5 ∧ Lies w5 b9 (sprow ⟨y, P, Q, false, false⟩) ∧ Lies w5 b12 (sprow ⟨F, 0, 0, false, false⟩))
      clear k5 HZ E4
      obtain ⟨c0, c1, c2, c3, c4⟩ := sat_of E5.out.2.2
      go_simp
      go_upto_region 13 with fail
      generalize hW : World.alloc _ _ = W6
      have L3 := Lies.new w5 (sprow (cumS F ys 0)) 27
      replace L3 := (show Lies W6 w5.heap.size (sprow (cumS F ys 0)) ∧ Below w5.heap.size w5 W6 by rw [← hW]; exact ⟨L3, ba1 _ _⟩)
      obtain ⟨b13, hb13⟩ : ∃ b, w5.heap.size = b := ⟨_, rfl⟩
      have hne : b9 ≠ b13 ∧ b12 ≠ b13 := by have h1 := E5.out.2.1.lt (by simp); have h2 := E5.out.2.2.lt (by simp); omega
      have E6 := Lib.hid (⟨thru E5.out.1 L3.2, by rw [← hb13]; exact L3.1, E5.out.2.1.below (by simp) L3.2, E5.out.2.2.below (by simp) L3.2, trivial⟩ : Below w.heap.size w W6 ∧ Lies W6 b13 (sprow (cumS F ys 0)) ∧ Lies W6 b9 (sprow ⟨y, P, Q, false, false⟩) ∧ Lies W6 b12 (sprow ⟨F, 0, 0, false, false⟩) ∧ True)
      have HB := Lib.hid (⟨HB2.out.1, HB2.out.2.1, HB2.out.2.2, by rw [← hb13]; exact E5.out.1.size, hne.1, hne.2⟩ : w.heap.size ≤ b9 ∧ w.heap.size ≤ b12 ∧ b9 ≠ b12 ∧ w.heap.size ≤ b13 ∧ b9 ≠ b13 ∧ b12 ≠ b13)
      rw [hb13]
      clear hW L3 hb13 hne E5 HB2 c0 c1 c2 c3 c4
      go_wp2_with fail
      go_loopw [86] (fun i wr => ∃ k : Nat, k ≤ n2 ∧ i = .int .i64 (k : Int) ∧ Hid (Below w.heap.size w wr ∧ Lies wr b13 (sprow (cumS F ys k)) ∧ Lies wr b9 (sprow ⟨y, P, Q, false, false⟩) ∧ Lies wr b12 (sprow ⟨F, 0, 0, false, false⟩) ∧ True)) (fun i _ => n2 - (intOf i).toNat)
      case atStart => exact ⟨0, Nat.zero_le _, rfl, E6⟩
      case round =>
        obtain ⟨k, hk, rfl, H⟩ := hrel
        by_cases hlt : k < n2
        · have hki : (k : Int) < (n2 : Int) := by omega
          have hk0 : ¬ (k : Int) < 0 := by omega
          have hwk : IntKind.i64.wrap ((k : Int) + 1) = (k : Int) + 1 := by have := HN.out; exact IntWalk.i64_in _ (by omega)
          obtain ⟨ad, hA, hadB, hcx⟩ := HX2.out k (by have := HN.out; omega)
          subst hA
          obtain ⟨p, hp⟩ : ∃ p, Strut.mostOf (ys.take k) = p := ⟨_, rfl⟩
          obtain ⟨q, hq⟩ : ∃ q, Strut.leastOf (ys.take k) = q := ⟨_, rfl⟩
          have e1 := mostOf_take ys k (by have := HN.out; omega)
          have e2 := leastOf_take ys k (by have := HN.out; omega)
          obtain ⟨m, hm⟩ : ∃ m, ys.getD k 0 = m := ⟨_, rfl⟩
          rw [hm] at e1 e2 hcx
          rw [hp] at e1
          rw [hq] at e2
          obtain ⟨p1, hp1⟩ : ∃ z, max p m = z := ⟨_, rfl⟩
          obtain ⟨q1, hq1⟩ : ∃ z, min q m = z := ⟨_, rfl⟩
          rw [hp1] at e1
          rw [hq1] at e2
          have HW := Lib.hid (by show (⟨F, max p m, min q m, false, false⟩ : Sp) = _; rw [hp1, hq1] : withS ⟨F, p, q, false, false⟩ m = ⟨F, p1, q1, false, false⟩)
          have HE := Lib.hid (⟨e1, e2⟩ : Strut.mostOf (ys.take (k + 1)) = p1 ∧ Strut.leastOf (ys.take (k + 1)) = q1)
          have H1 := H.out
          unfold cumS at H1
          rw [hp, hq] at H1
          have c9 := (H1.1.cell (p := ad.add k) (by rw [block_of_add]; exact hadB)).trans hcx
          obtain ⟨c0, c1, c2, c3, c4⟩ := sat_of H1.2.1
          have HH := Lib.hid H1
          clear H H1 hp hq hp1 hq1 e1 e2 hm hcx hadB
          go_wp2_with (first
            | (go_at_call 9; refine (gwith_is HW.out wr).mono ?_; rintro e w3 ⟨rfl, k3⟩; clear c0 c1 c2 c3 c4 c9; have z0 := HH.out.2.1.below (by simp) k3; obtain ⟨c0, c1, c2, c3, c4⟩ := sat_of z0; obtain ⟨f0, f1, f2, f3, f4⟩ := sfr_of z0; have K3 := Lib.hid (⟨thru HH.out.1 k3, z0, HH.out.2.2.1.below (by simp) k3, HH.out.2.2.2.1.below (by simp) k3, trivial⟩ : Below w.heap.size w w3 ∧ Lies w3 b13 (sprow ⟨F, p, q, false, false⟩) ∧ Lies w3 b9 (sprow ⟨y, P, Q, false, false⟩) ∧ Lies w3 b12 (sprow ⟨F, 0, 0, false, false⟩) ∧ True); clear k3 z0 HH))
          go_roundw
          case rel =>
            refine ⟨k + 1, by omega, by go_num, Lib.hid ?_⟩
            unfold cumS
            rw [HE.out.1, HE.out.2]
            have sv := Save.five w3 (b13) (.int .i64 F) (.int .i64 p1) (.int .i64 q1) (.bool false) (.bool false)
            exact ⟨K3.out.1.trans (sv.blw (by have := HB.out; omega) K3.out.1.size), K3.out.2.1.five _ _ _ _ _, K3.out.2.2.1.save (by simp) sv (by have := HB.out; omega), K3.out.2.2.2.1.save (by simp) sv (by have := HB.out; omega), trivial⟩
          case measure => simp [intOf]; omega
        · obtain rfl : k = n2 := by omega
          have h1 := H.out
          unfold cumS at h1
          rw [List.take_of_length_le (by have := HN.out; omega)] at h1
          rw [HPQ.out.2.2.1, HPQ.out.2.2.2.1] at h1
          have HE := Lib.hid h1
          clear h1 H hk E6
          obtain ⟨wp, hwp⟩ : ∃ x, x = wr := ⟨_, rfl⟩
          subst hwp
          go_upto_region 18 with fail
          have HZ := Lib.hid (fun w' (l : Below wp.heap.size wp w') => (⟨HE.out.2.1.below (by simp) l, HE.out.2.2.1.below (by simp) l, HE.out.2.2.2.1.below (by simp) l⟩ : Lies w' b13 (sprow ⟨F, P2, Q2, false, false⟩) ∧ Lies w' b9 (sprow ⟨y, P, Q, false, false⟩) ∧ Lies w' b12 (sprow ⟨F, 0, 0, false, false⟩)))
          have HSu := Lib.hid (fun w' (l : Below w.heap.size w w') => gsum_is (A := A2) (n := k) (c := c2) (xs := ys) (v := S2) (by rw [HPQ.out.2.2.1, HPQ.out.2.2.2.1]; exact HPQ.out.2.2.2.2) HN.out.2.2.1 (by have := HN.out; omega) HAY.out w' w'.heap.size (HX2.out.thru l))
          refine Hold.wp_region_hold [.val (.agg #[.int .i64 F, .int .i64 P2, .int .i64 Q2, .bool false, .bool false]), .val (.int .i64 R), .val (.agg #[.int .i64 y, .int .i64 P, .int .i64 Q, .bool false, .bool false]), .val (.int .i64 a), .val (.int .i64 d), .val (.int .i64 F), .val (.slice A2 k c2), .val (.int .i64 S2), .val (.int .i64 R), .val (.bool true), .val (.bool true), .val (.agg #[.int .i64 F, .int .i64 P2, .int .i64 Q2, .bool false, .bool false]), .val (.agg #[.int .i64 F, .int .i64 P2, .int .i64 Q2, .bool false, .bool false]), .val (.int .i64 R), .val (.agg #[.int .i64 F, .int .i64 P2, .int .i64 Q2, .bool false, .bool false]), .val (.int .i64 R), .val (.bool true), .val (.bool true), .val (.bool true), .val (.agg #[.int .i64 y, .int .i64 P, .int .i64 Q, .bool false, .bool false]), .val (.agg #[.int .i64 a, .int .i64 0, .int .i64 0, .bool false, .bool false]), .val (.int .i64 d), .val (.agg #[.int .i64 F, .int .i64 0, .int .i64 0, .bool false, .bool false]), .val (.agg #[.int .i64 F, .int .i64 0, .int .i64 0, .bool false, .bool false]), .val (.bool true), .val (.bool true)] (by kernel_rfl) (by kernel_rfl) (by kernel_rfl) ?_ ?_
          · simp only [Hold.fill, Hold.Leave.value]
            refine ⟨?_, ?_, ?_, ?_, ?_, ?_, ?_, ?_, ?_, ?_, ?_, ?_, ?_, ?_, ?_, ?_, ?_, ?_, ?_, ?_, ?_, ?_, ?_, ?_, ?_, ?_, trivial⟩
            · intro gg w' hw hk
              have q0 : w'.cell? ⟨b13, 0, none⟩ = some (.int .i64 F) := ((HZ.out w' hw).1).at' 0
              have q1 : w'.cell? ⟨b13, 1, none⟩ = some (.int .i64 P2) := ((HZ.out w' hw).1).at' 1
              have q2 : w'.cell? ⟨b13, 2, none⟩ = some (.int .i64 Q2) := ((HZ.out w' hw).1).at' 2
              have q3 : w'.cell? ⟨b13, 3, none⟩ = some (.bool false) := ((HZ.out w' hw).1).at' 3
              have q4 : w'.cell? ⟨b13, 4, none⟩ = some (.bool false) := ((HZ.out w' hw).1).at' 4
              go_simp
              exact ⟨rfl, rfl⟩
            · intro gg w' hw hk
              go_simp
              exact Hold.stays_call (gat_is HAT.out.2.2.1 HAT.out.2.2.2 w')
            · intro gg w' hw hk
              have q0 : w'.cell? ⟨b9, 0, none⟩ = some (.int .i64 y) := ((HZ.out w' hw).2.1).at' 0
              have q1 : w'.cell? ⟨b9, 1, none⟩ = some (.int .i64 P) := ((HZ.out w' hw).2.1).at' 1
              have q2 : w'.cell? ⟨b9, 2, none⟩ = some (.int .i64 Q) := ((HZ.out w' hw).2.1).at' 2
              have q3 : w'.cell? ⟨b9, 3, none⟩ = some (.bool false) := ((HZ.out w' hw).2.1).at' 3
              have q4 : w'.cell? ⟨b9, 4, none⟩ = some (.bool false) := ((HZ.out w' hw).2.1).at' 4
              go_simp
              exact ⟨rfl, rfl⟩
            · intro gg w' hw hk
              go_simp
              exact Hold.stays_call (gat_is HAT.out.1.1 HAT.out.1.2 w')
            · intro gg w' hw hk
              go_simp
              exact ⟨rfl, rfl⟩
            · intro gg w' hw hk
              go_simp
              exact ⟨rfl, rfl⟩
            · intro gg w' hw hk
              go_simp
              exact ⟨rfl, rfl⟩
            · intro gg w' hw hk
              go_simp
              exact Hold.stays_call (HSu.out w' (thru HE.out.1 hw))
            · intro gg w' hw hk
              go_simp
              exact ⟨rfl, rfl⟩
            · intro gg w' hw hk
              go_simp
              exact ⟨rfl, rfl⟩
            · intro gg w' hw hk
              go_simp
              exact ⟨rfl, rfl⟩
            · intro gg w' hw hk
              have q0 : w'.cell? ⟨b13, 0, none⟩ = some (.int .i64 F) := ((HZ.out w' hw).1).at' 0
              have q1 : w'.cell? ⟨b13, 1, none⟩ = some (.int .i64 P2) := ((HZ.out w' hw).1).at' 1
              have q2 : w'.cell? ⟨b13, 2, none⟩ = some (.int .i64 Q2) := ((HZ.out w' hw).1).at' 2
              have q3 : w'.cell? ⟨b13, 3, none⟩ = some (.bool false) := ((HZ.out w' hw).1).at' 3
              have q4 : w'.cell? ⟨b13, 4, none⟩ = some (.bool false) := ((HZ.out w' hw).1).at' 4
              go_simp
              exact ⟨rfl, rfl⟩
            · intro gg w' hw hk
              go_simp
              exact Hold.stays_call (gpass_is HAT.out.2.2.1 HFX.out.2.2.2.2.2 w')
            · intro gg w' hw hk
              go_simp
              exact Hold.stays_call (gat_is HAT.out.2.2.1 HAT.out.2.2.2 w')
            · intro gg w' hw hk
              have q0 : w'.cell? ⟨b13, 0, none⟩ = some (.int .i64 F) := ((HZ.out w' hw).1).at' 0
              have q1 : w'.cell? ⟨b13, 1, none⟩ = some (.int .i64 P2) := ((HZ.out w' hw).1).at' 1
              have q2 : w'.cell? ⟨b13, 2, none⟩ = some (.int .i64 Q2) := ((HZ.out w' hw).1).at' 2
              have q3 : w'.cell? ⟨b13, 3, none⟩ = some (.bool false) := ((HZ.out w' hw).1).at' 3
              have q4 : w'.cell? ⟨b13, 4, none⟩ = some (.bool false) := ((HZ.out w' hw).1).at' 4
              go_simp
              exact ⟨rfl, rfl⟩
            · intro gg w' hw hk
              go_simp
              exact Hold.stays_call (gat_is HAT.out.2.2.1 HAT.out.2.2.2 w')
            · intro gg w' hw hk
              go_simp
              exact ⟨rfl, rfl⟩
            · intro gg w' hw hk
              go_simp
              exact ⟨rfl, rfl⟩
            · intro gg w' hw hk
              go_simp
              exact ⟨rfl, rfl⟩
            · intro gg w' hw hk
              have q0 : w'.cell? ⟨b9, 0, none⟩ = some (.int .i64 y) := ((HZ.out w' hw).2.1).at' 0
              have q1 : w'.cell? ⟨b9, 1, none⟩ = some (.int .i64 P) := ((HZ.out w' hw).2.1).at' 1
              have q2 : w'.cell? ⟨b9, 2, none⟩ = some (.int .i64 Q) := ((HZ.out w' hw).2.1).at' 2
              have q3 : w'.cell? ⟨b9, 3, none⟩ = some (.bool false) := ((HZ.out w' hw).2.1).at' 3
              have q4 : w'.cell? ⟨b9, 4, none⟩ = some (.bool false) := ((HZ.out w' hw).2.1).at' 4
              go_simp
              exact ⟨rfl, rfl⟩
            · intro gg w' hw hk
              go_simp
              exact Hold.stays_call (gfix_is HAT.out.1.1 (by omega) HFX.out.2.2.1 w')
            · intro gg w' hw hk
              go_simp
              exact ⟨rfl, rfl⟩
            · intro gg w' hw hk
              go_simp
              exact Hold.stays_call (gfix_is HFX.out.2.2.2.1 HFX.out.1 HFX.out.2.2.2.2.1 w')
            · intro gg w' hw hk
              have q0 : w'.cell? ⟨b12, 0, none⟩ = some (.int .i64 F) := ((HZ.out w' hw).2.2).at' 0
              have q1 : w'.cell? ⟨b12, 1, none⟩ = some (.int .i64 0) := ((HZ.out w' hw).2.2).at' 1
              have q2 : w'.cell? ⟨b12, 2, none⟩ = some (.int .i64 0) := ((HZ.out w' hw).2.2).at' 2
              have q3 : w'.cell? ⟨b12, 3, none⟩ = some (.bool false) := ((HZ.out w' hw).2.2).at' 3
              have q4 : w'.cell? ⟨b12, 4, none⟩ = some (.bool false) := ((HZ.out w' hw).2.2).at' 4
              go_simp
              exact ⟨rfl, rfl⟩
            · intro gg w' hw hk
              go_simp
              exact ⟨rfl, rfl⟩
            · intro gg w' hw hk
              go_simp
              exact ⟨rfl, rfl⟩
          intro gg w9 k9 hgg
          clear hgg
          simp only [Hold.fill, Hold.Leave.value, List.length_cons, List.length_nil, List.drop_succ_cons, List.drop_zero]
          go_simp
          go_wp2_with fail
          go_ret
          exact ⟨rfl, thru HE.out.1 k9⟩

theorem fixes_any (y : Int) (A : Option Addr) (n c : Nat) (xs : List Int) (A2 : Option Addr) (n2 c2 : Nat) (ys : List Int) (d : Int) (w : World) (hn : n = xs.length) (hc : n ≤ c) (hz : A = none → c = 0) (hx : Nums w w.heap.size A xs) (hn2 : n2 = ys.length) (hc2 : n2 ≤ c2) (hz2 : A2 = none → c2 = 0) (hx2 : Nums w w.heap.size A2 ys) :
    Calls Try.prog 5 #[.int .i64 y, .slice A n c, .slice A2 n2 c2, .int .i64 d] w fun e w' => e = .returned (.bool true) ∧ Below w.heap.size w w' := by
  by_cases h20 : n ≤ 20
  · by_cases h30 : n2 ≤ 20
    · cases hs : ([y, d] ++ xs ++ ys).all in50 with
      | false => exact fixes_no y A n c xs A2 n2 c2 ys d w hn hc hz hx hn2 hc2 hz2 hx2 h20 h30 hs
      | true => exact fixes_yes y A n c xs A2 n2 c2 ys d w hn hc hz hx hn2 hc2 hz2 hx2 h20 h30 hs
    · exact fixes_long2 y A n c xs A2 n2 c2 ys d w hn hc hz hx hn2 hc2 hz2 hx2 h20 h30
  · exact fixes_long1 y A n c xs A2 n2 c2 ys d w hn hc hz hx hn2 hc2 hz2 hx2 h20

end Go.Proofs.Ytkjbimoflmkekaa.Spot
