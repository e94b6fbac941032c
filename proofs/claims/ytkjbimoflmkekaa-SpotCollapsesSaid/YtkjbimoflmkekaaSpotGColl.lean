/- The law: margins collapse, in whichever order; a box that was moved clear, and has nothing, moves nothing by its own margins. -/
import Derived.Test.YtkjbimoflmkekaaSpotGSmall
namespace Go.Proofs.Ytkjbimoflmkekaa.Spot
open Go.RowKit Go.Sort Go.Proofs.Ytkjbimoflmkekaa.Strut Go.Proofs.Ytkjbimoflmkekaa.More
set_option linter.unusedVariables false
set_option linter.unusedSimpArgs false

set_option maxRecDepth 100000 in
set_option maxHeartbeats 800000 in
theorem coll_long (y : Int) (A : Option Addr) (n c : Nat) (xs : List Int) (cu : Int) (hcu : 0 ≤ cu ∧ cu ≤ 255) (w : World) (hn : n = xs.length) (hc : n ≤ c) (hz : A = none → c = 0) (hx : Nums w w.heap.size A xs) (h40 : ¬ n ≤ 40) :
    Calls Try.prog 4 #[.int .i64 y, .slice A n c, .int .u8 cu] w fun e w' => e = .returned (.bool true) ∧ Below w.heap.size w w' := by
  have h41 : (40 : Int) < (n : Int) := by omega
  clear hx hn hc hz
  go_enter Try.func4, Try.ntmps4
  go_wp2_with fail
  refine (gspeaks w).mono ?_; rintro e w1 ⟨rfl, b1⟩
  go_wp2_with fail
  refine (gspeaks w1).mono ?_; rintro e w2 ⟨rfl, b2⟩
  go_wp2_with fail
  go_ret
  exact ⟨rfl, thru b1 b2⟩

set_option maxRecDepth 100000 in
set_option maxHeartbeats 800000 in
theorem coll_nil (y : Int) (A : Option Addr) (n c : Nat) (xs : List Int) (cu : Int) (hcu : 0 ≤ cu ∧ cu ≤ 255) (w : World) (hn : n = xs.length) (hc : n ≤ c) (hz : A = none → c = 0) (hx : Nums w w.heap.size A xs) (h40 : n = 0) :
    Calls Try.prog 4 #[.int .i64 y, .slice A n c, .int .u8 cu] w fun e w' => e = .returned (.bool true) ∧ Below w.heap.size w w' := by
  subst h40
  clear hx hn hc hz
  go_enter Try.func4, Try.ntmps4
  go_wp2_with fail
  refine (gspeaks w).mono ?_; rintro e w1 ⟨rfl, b1⟩
  go_wp2_with fail
  refine (gspeaks w1).mono ?_; rintro e w2 ⟨rfl, b2⟩
  go_wp2_with fail
  go_ret
  exact ⟨rfl, thru b1 b2⟩

set_option maxRecDepth 100000 in
set_option maxHeartbeats 800000 in
theorem coll_no (y : Int) (A : Option Addr) (n c : Nat) (xs : List Int) (cu : Int) (hcu : 0 ≤ cu ∧ cu ≤ 255) (w : World) (hn : n = xs.length) (hc : n ≤ c) (hz : A = none → c = 0) (hx : Nums w w.heap.size A xs) (h40 : n ≤ 40) (h0 : 0 < n) (hs : ([y] ++ xs).all in50 = false) :
    Calls Try.prog 4 #[.int .i64 y, .slice A n c, .int .u8 cu] w fun e w' => e = .returned (.bool true) ∧ Below w.heap.size w w' := by
  have h41 : ¬ (40 : Int) < (n : Int) := by omega
  have hnz : ¬ (n : Int) = 0 := by omega
  have hnb : ((n : Int) == 0) = false := by simp; omega
  have HS := Lib.hid (fun w' (j : Below w.heap.size w w') => nums_src (hx.thru j) hn hz)
  have HF := Lib.hid hs
  have HN := Lib.hid (⟨hn, h40, h0, hc⟩ : n = xs.length ∧ n ≤ 40 ∧ 0 < n ∧ n ≤ c)
  clear hx hn hc hz hs h40 h0
  go_enter Try.func4, Try.ntmps4
  go_wp2_with fail
  refine (gspeaks w).mono ?_; rintro e w1 ⟨rfl, b1⟩
  go_wp2_with (first
    | (at_builtin; refine wpList_append_on _ (by go_simp) (.tmp 28) (.tmp 29) rfl w1.heap.size (some ⟨w1.heap.size, 0, none⟩) 1 1 [y] rfl (one_mine w1 w1.heap.size (Nat.le_refl _) y) A n c xs rfl (HS.out _ (thru b1 (ba1 w1 _))) (by have := HN.out; omega) (by simp) ?_; intro A1 c1 W1 h1; have G1 := Lib.hid (⟨h1.1, thru b1 (h1.below (one_mine w1 w1.heap.size (Nat.le_refl _) y) (ba1 w1 _) (Nat.le_refl _) (by simp))⟩ : Mine W1 w1.heap.size A1 (1 + n) c1 ([y] ++ xs) ∧ Below w.heap.size w W1); clear h1)
    | (go_at_call 8; refine (gsmall_is A1 (1 + n) c1 ([y] ++ xs) W1 (by have := HN.out; simp; omega) (by have := HN.out; omega) W1.heap.size (Mine.nums G1.out.1) _ HF.out).mono ?_; rintro e w2 ⟨rfl, rfl⟩))
  refine (gspeaks _).mono ?_; rintro e w2 ⟨rfl, b2⟩
  go_wp2_with fail
  go_ret
  exact ⟨rfl, thru G1.out.2 b2⟩

/-- The spot in a box that was moved clear, behind some margins. -/
abbrev clrS (y : Int) (xs : List Int) (k : Nat) : Sp := ⟨y, Strut.mostOf (xs.take k), Strut.leastOf (xs.take k), false, true⟩
/-- The spot behind such a box. -/
abbrev pasS (y : Int) (xs : List Int) (k : Nat) : Sp := ⟨y, Strut.mostOf (xs.take k), Strut.leastOf (xs.take k), true, false⟩
theorem first_take {xs : List Int} (h : 0 < xs.length) : xs.take 1 = [xs.getD 0 0] := by
  cases xs with
  | nil => simp at h
  | cons x xs => rfl

set_option maxRecDepth 100000 in
set_option maxHeartbeats 4000000 in
theorem coll_yes (y : Int) (A : Option Addr) (n c : Nat) (xs : List Int) (cu : Int) (hcu : 0 ≤ cu ∧ cu ≤ 255) (w : World) (hn : n = xs.length) (hc : n ≤ c) (hz : A = none → c = 0) (hx : Nums w w.heap.size A xs) (h40 : n ≤ 40) (h0 : 0 < n) (hs : ([y] ++ xs).all in50 = true) :
    Calls Try.prog 4 #[.int .i64 y, .slice A n c, .int .u8 cu] w fun e w' => e = .returned (.bool true) ∧ Below w.heap.size w w' := by
  have h41 : ¬ (40 : Int) < (n : Int) := by omega
  have hnz : ¬ (n : Int) = 0 := by omega
  have hnb : ((n : Int) == 0) = false := by simp; omega
  have HS := Lib.hid (fun w' (j : Below w.heap.size w w') => nums_src (hx.thru j) hn hz)
  have HF := Lib.hid hs
  have HN := Lib.hid (⟨hn, h40, h0, hc⟩ : n = xs.length ∧ n ≤ 40 ∧ 0 < n ∧ n ≤ c)
  have hall : xs.all in50 = true := by rw [one_all, Bool.and_eq_true] at hs; exact hs.2
  have hy : -1125899906842624 ≤ y ∧ y ≤ 1125899906842624 := by rw [one_all, Bool.and_eq_true] at hs; exact in50_iff.1 hs.1
  have HY := Lib.hid hy
  have HT := Lib.hid (fun k => (⟨most50 _ (all50_take hall k), least50 _ (all50_take hall k)⟩ : (0 ≤ Strut.mostOf (xs.take k) ∧ Strut.mostOf (xs.take k) ≤ 1125899906842624) ∧ (-1125899906842624 ≤ Strut.leastOf (xs.take k) ∧ Strut.leastOf (xs.take k) ≤ 0)))
  have HA5 := Lib.hid hall
  have hb1 := most50 xs hall
  have hb2 := least50 xs hall
  obtain ⟨P, hP⟩ : ∃ P, Strut.mostOf xs = P := ⟨_, rfl⟩
  obtain ⟨Q, hQ⟩ : ∃ Q, Strut.leastOf xs = Q := ⟨_, rfl⟩
  rw [hP] at hb1
  rw [hQ] at hb2
  obtain ⟨S, hS⟩ : ∃ S, P + Q = S := ⟨_, rfl⟩
  obtain ⟨a, ha⟩ : ∃ a, y + S = a := ⟨_, rfl⟩
  obtain ⟨a3, ha3⟩ : ∃ a3, a + 3 = a3 := ⟨_, rfl⟩
  have hwa : IntKind.i64.wrap (y + S) = a := by rw [← ha]; exact IntWalk.i64_in _ (by omega)
  have hwa3 : IntKind.i64.wrap (a + 3) = a3 := by rw [← ha3]; exact IntWalk.i64_in _ (by omega)
  have HPQ := Lib.hid (⟨hP, hQ, hS⟩ : Strut.mostOf xs = P ∧ Strut.leastOf xs = Q ∧ P + Q = S)
  have HAT := Lib.hid (⟨by unfold FineS; dsimp only; omega, by show y + (P + Q) = a; omega, by show (⟨y + (P + Q) + 3, 0, 0, false, false⟩ : Sp) = _; rw [show y + (P + Q) + 3 = a3 by omega]⟩ : FineS ⟨y, P, Q, false, false⟩ ∧ atS ⟨y, P, Q, false, false⟩ = a ∧ fixS ⟨y, P, Q, false, false⟩ 3 = ⟨a3, 0, 0, false, false⟩)
  have hwc : IntKind.i64.wrap cu = cu := IntWalk.i64_in _ (by omega)
  obtain ⟨j, hj, hjn⟩ : ∃ j : Nat, cu.tmod (n : Int) = (j : Int) ∧ j < n := by
    have g0 := Int.tmod_nonneg (n : Int) hcu.1
    have g1 := Int.tmod_lt_of_pos cu (show (0 : Int) < (n : Int) by omega)
    exact ⟨(cu.tmod (n : Int)).toNat, by omega, by omega⟩
  obtain ⟨K, hK⟩ : ∃ K, 1 + j = K := ⟨_, rfl⟩
  have hw1 : IntKind.i64.wrap (1 + (j : Int)) = (K : Int) := by rw [IntWalk.i64_in _ (by omega)]; omega
  have HK := Lib.hid (⟨by omega, by omega⟩ : 1 ≤ K ∧ K ≤ n)
  obtain ⟨ad, hA, hadB, hc0⟩ := hx 0 (by omega)
  subst hA
  obtain ⟨m0, hm0⟩ : ∃ m0, xs.getD 0 0 = m0 := ⟨_, rfl⟩
  rw [hm0] at hc0
  have ht1 := first_take (xs := xs) (by omega)
  rw [hm0] at ht1
  have hni0 : (0 : Int) < (n : Int) := by omega
  have h1n : 1 ≤ n := h0
  have h1c : 1 ≤ c := by omega
  have h1ni : (1 : Int) ≤ (n : Int) := by omega
  have h1ci : (1 : Int) ≤ (c : Int) := by omega
  obtain ⟨p0, hp0⟩ : ∃ p, max 0 m0 = p := ⟨_, rfl⟩
  obtain ⟨q0', hq0⟩ : ∃ q, min 0 m0 = q := ⟨_, rfl⟩
  have HM := Lib.hid (⟨by rw [ht1]; exact hp0, by rw [ht1]; exact hq0, by show (⟨y, max 0 m0, min 0 m0, false, false⟩ : Sp) = _; rw [hp0, hq0], by show (⟨y, max 0 m0, min 0 m0, false, true⟩ : Sp) = _; rw [hp0, hq0]⟩ : Strut.mostOf (xs.take 1) = p0 ∧ Strut.leastOf (xs.take 1) = q0' ∧ belowS y m0 = ⟨y, p0, q0', false, false⟩ ∧ clearedS y m0 = ⟨y, p0, q0', false, true⟩)
  have HX := Lib.hid hx
  have HX1 := Lib.hid (Nums.back' hx hn hc 1 h1n)
  have HC0 := Lib.hid (fun w' (l : Below w.heap.size w w') => (show w'.cell? ad = some (.int .i64 m0) from (l.cell (p := ad) hadB).trans (by rw [← hc0]; congr 1)))
  have h0n : 0 < n := h0
  clear hx hz hs h40 h0 hn hc hall hy hb1 hb2 hP hQ hS ha ha3 hjn hK hm0 hc0 ht1 hp0 hq0 hadB
  go_enter Try.func4, Try.ntmps4
  go_wp2_with fail
  refine (gspeaks w).mono ?_; rintro e w1 ⟨rfl, b1⟩
  go_upto_region 3 with (first
    | (at_builtin; refine wpList_append_on _ (by go_simp) (.tmp 28) (.tmp 29) rfl w1.heap.size (some ⟨w1.heap.size, 0, none⟩) 1 1 [y] rfl (one_mine w1 w1.heap.size (Nat.le_refl _) y) (some ad) n c xs rfl (HS.out _ (thru b1 (ba1 w1 _))) (by have := HN.out; omega) (by simp) ?_; intro A1 c1 W1 h1; have G1 := Lib.hid (⟨h1.1, thru b1 (h1.below (one_mine w1 w1.heap.size (Nat.le_refl _) y) (ba1 w1 _) (Nat.le_refl _) (by simp))⟩ : Mine W1 w1.heap.size A1 (1 + n) c1 ([y] ++ xs) ∧ Below w.heap.size w W1); clear h1)
    | (go_at_call 8; refine (gsmall_is A1 (1 + n) c1 ([y] ++ xs) W1 (by have := HN.out; simp; omega) (by have := HN.out; omega) W1.heap.size (Mine.nums G1.out.1) _ HF.out).mono ?_; rintro e w2 ⟨rfl, rfl⟩))
  have E1 := Lib.hid G1.out.2
  clear G1 HS HF b1
  have HLD := Lib.hid (fun st w' G (hw : Draw.quiet W1 st w' G) => HC0.out w' (thru E1.out hw.1))
  refine Draw.wp_region_drawn (Draw.quiet W1) 0 [.val (.int .i64 y), .val (.slice (some ad) n c), .val (.pointer (some ad)), .val (.int .i64 m0), .val (.agg #[.int .i64 y, .int .i64 p0, .int .i64 q0', .bool false, .bool false]), .val (.int .i64 y), .val (.slice (some ad) n c), .val (.pointer (some ad)), .val (.int .i64 m0), .val (.agg #[.int .i64 y, .int .i64 p0, .int .i64 q0', .bool false, .bool true]), .box (.cells #[.int .i64 0, .int .i64 0, .int .i64 0, .bool false, .bool false] 27), .box (.cells #[.int .i64 0, .int .i64 0, .int .i64 0, .bool false, .bool false] 27), .put 10 (.cells #[.int .i64 y, .int .i64 p0, .int .i64 q0', .bool false, .bool false] 27), .put 11 (.cells #[.int .i64 y, .int .i64 p0, .int .i64 q0', .bool false, .bool true] 27)] (by kernel_rfl) (by kernel_rfl) (by kernel_rfl) (Draw.quiet_kept W1) (Draw.quiet_start W1) ?_ ?_
  · simp only [Draw.fill, Draw.Leave.value]
    refine ⟨?_, ?_, ?_, ?_, ?_, ?_, ?_, ?_, ?_, ?_, ?_, ?_, ?_, ?_, trivial⟩
    · intro st gg w' G hw hk
      go_simp
      exact ⟨rfl, rfl⟩
    · intro st gg w' G hw hk
      go_simp
      exact ⟨rfl, rfl⟩
    · intro st gg w' G hw hk
      go_simp
      exact ⟨rfl, rfl⟩
    · intro st gg w' G hw hk
      have q0 := HLD.out st w' G hw
      go_simp
      exact ⟨rfl, rfl⟩
    · intro st gg w' G hw hk
      go_simp
      exact Draw.stays_call (gbelow_is HM.out.2.2.1 w')
    · intro st gg w' G hw hk
      go_simp
      exact ⟨rfl, rfl⟩
    · intro st gg w' G hw hk
      go_simp
      exact ⟨rfl, rfl⟩
    · intro st gg w' G hw hk
      go_simp
      exact ⟨rfl, rfl⟩
    · intro st gg w' G hw hk
      have q0 := HLD.out st w' G hw
      go_simp
      exact ⟨rfl, rfl⟩
    · intro st gg w' G hw hk
      go_simp
      exact Draw.stays_call (gcleared_is HM.out.2.2.2 w')
    · intro st gg w' G hw hk
      go_simp
    · intro st gg w' G hw hk
      go_simp
    · intro st gg w' G hw y b hy hob hb
      obtain rfl : Draw.Leave.box _ = y := Option.some.inj hy
      obtain rfl : _ = b := Option.some.inj hob
      have hb0 := lies_of (xs := sprow zeroSp) hb
      obtain ⟨r0, r1, r2, r3, r4⟩ := sat_of hb0
      obtain ⟨f0, f1, f2, f3, f4⟩ := sfr_of hb0
      refine ⟨_, ?_, only_putS zeroSp ⟨y, p0, q0', false, false⟩ hb⟩
      clear hb0
      clear hb
      go_simp
      rfl
    · intro st gg w' G hw y b hy hob hb
      obtain rfl : Draw.Leave.box _ = y := Option.some.inj hy
      obtain rfl : _ = b := Option.some.inj hob
      have hb0 := lies_of (xs := sprow zeroSp) hb
      obtain ⟨r0, r1, r2, r3, r4⟩ := sat_of hb0
      obtain ⟨f0, f1, f2, f3, f4⟩ := sfr_of hb0
      refine ⟨_, ?_, only_putS zeroSp ⟨y, p0, q0', false, true⟩ hb⟩
      clear hb0
      clear hb
      go_simp
      rfl
  intro gg w5 G5 k5 hbox hput hap
  have p7 := lies_of (xs := sprow ⟨y, p0, q0', false, false⟩) (hput 12 10 _ rfl)
  have p8 := lies_of (xs := sprow ⟨y, p0, q0', false, true⟩) (hput 13 11 _ rfl)
  have n78 := hap 10 11 _ _ _ _ (by decide) rfl rfl rfl rfl
  have l7 := (hbox 10 _ _ rfl rfl).2.1
  have l8 := (hbox 11 _ _ rfl rfl).2.1
  simp only [Draw.fill, Draw.Leave.value]
  go_simp
  generalize gg 10 = b7 at *
  generalize gg 11 = b8 at *
  have E5 := Lib.hid (⟨thru E1.out k5.1, p7, p8⟩ : Below w.heap.size w w5 ∧ Lies w5 b7 (sprow ⟨y, p0, q0', false, false⟩) ∧ Lies w5 b8 (sprow ⟨y, p0, q0', false, true⟩))
  have HB := Lib.hid (⟨Nat.le_trans E1.out.size l7, Nat.le_trans E1.out.size l8, n78⟩ : w.heap.size ≤ b7 ∧ w.heap.size ≤ b8 ∧ b7 ≠ b8)
  clear p7 p8 n78 l7 l8 k5 hbox hput hap HLD E1
  obtain ⟨X, hX⟩ : ∃ X, backA (some ad) c 1 = X := ⟨_, rfl⟩
  obtain ⟨r, hr⟩ : ∃ r, n - 1 = r := ⟨_, rfl⟩
  rw [hX] at HX1
  have HXX := Lib.hid (⟨hX, hr⟩ : backA (some ad) c 1 = X ∧ n - 1 = r)
  clear hX hr
  go_upto_region 6 with (first
    | ((with_reducible refine wpList_slice _ rfl (.tmp 51) (some (.const (.int .i64 1))) none none rfl (.slice X r (c - 1)) ?_ ?_); rw [← HXX.out.1, ← HXX.out.2]; go_simp; exact ⟨rfl, rfl⟩))
  obtain ⟨PK, hPK⟩ : ∃ P, Strut.mostOf (xs.take K) = P := ⟨_, rfl⟩
  obtain ⟨QK, hQK⟩ : ∃ Q, Strut.leastOf (xs.take K) = Q := ⟨_, rfl⟩
  have hbK := HT.out K
  rw [hPK, hQK] at hbK
  have HPK := Lib.hid (⟨hPK, hQK, hbK⟩ : Strut.mostOf (xs.take K) = PK ∧ Strut.leastOf (xs.take K) = QK ∧ (0 ≤ PK ∧ PK ≤ 1125899906842624) ∧ (-1125899906842624 ≤ QK ∧ QK ≤ 0))
  have E6 := Lib.hid (⟨E5.out.1, by show Lies w5 b7 (sprow (cumS y xs 1)); unfold cumS; rw [HM.out.1, HM.out.2.1]; exact E5.out.2.1, by show Lies w5 b8 (sprow (clrS y xs (min 1 K))); rw [show min 1 K = 1 by have := HK.out; omega]; unfold clrS; rw [HM.out.1, HM.out.2.1]; exact E5.out.2.2⟩ : Below w.heap.size w w5 ∧ Lies w5 b7 (sprow (cumS y xs 1)) ∧ Lies w5 b8 (sprow (clrS y xs (min 1 K))))
  clear E5 hPK hQK hbK
  go_loopw [54] (fun i wr => ∃ k : Nat, k ≤ r ∧ i = .int .i64 (k : Int) ∧ Hid (Below w.heap.size w wr ∧ Lies wr b7 (sprow (cumS y xs (k + 1))) ∧ Lies wr b8 (sprow (clrS y xs (min (k + 1) K))))) (fun i _ => r - (intOf i).toNat)
  case atStart => exact ⟨0, Nat.zero_le _, rfl, E6⟩
  case round =>
    obtain ⟨k, hk, rfl, H⟩ := hrel
    by_cases hlt : k < r
    · have hki : (k : Int) < (r : Int) := by omega
      have hk0 : ¬ (k : Int) < 0 := by omega
      have hrn := HXX.out.2
      have hwk : IntKind.i64.wrap ((k : Int) + 1) = (k : Int) + 1 := by have := HN.out; exact IntWalk.i64_in _ (by omega)
      obtain ⟨ad1, hA1, hadB, hcx⟩ := HX1.out k (by rw [List.length_drop]; have := HN.out; omega)
      subst hA1
      rw [getD_drop, Nat.add_comm 1 k] at hcx
      obtain ⟨p, hp⟩ : ∃ p, Strut.mostOf (xs.take (k + 1)) = p := ⟨_, rfl⟩
      obtain ⟨q, hq⟩ : ∃ q, Strut.leastOf (xs.take (k + 1)) = q := ⟨_, rfl⟩
      have e1 := mostOf_take xs (k + 1) (by have := HN.out; omega)
      have e2 := leastOf_take xs (k + 1) (by have := HN.out; omega)
      obtain ⟨m, hm⟩ : ∃ m, xs.getD (k + 1) 0 = m := ⟨_, rfl⟩
      rw [hm] at e1 e2 hcx
      rw [hp] at e1
      rw [hq] at e2
      obtain ⟨p1, hp1⟩ : ∃ z, max p m = z := ⟨_, rfl⟩
      obtain ⟨q1, hq1⟩ : ∃ z, min q m = z := ⟨_, rfl⟩
      rw [hp1] at e1
      rw [hq1] at e2
      have HW := Lib.hid (by show (⟨y, max p m, min q m, false, false⟩ : Sp) = _; rw [hp1, hq1] : withS ⟨y, p, q, false, false⟩ m = ⟨y, p1, q1, false, false⟩)
      have HE := Lib.hid (⟨e1, e2⟩ : Strut.mostOf (xs.take ((k + 1) + 1)) = p1 ∧ Strut.leastOf (xs.take ((k + 1) + 1)) = q1)
      have hB1 := HT.out (k + 1 + 1)
      rw [e1, e2] at hB1
      have HW2 := Lib.hid (by show (⟨y, max p m, min q m, false, true⟩ : Sp) = _; rw [hp1, hq1] : withS ⟨y, p, q, false, true⟩ m = ⟨y, p1, q1, false, true⟩)
      have HFi := Lib.hid (by have := HY.out; unfold FineS; dsimp only; omega : FineS ⟨y, p1, q1, false, true⟩)
      have H1 := H.out
      unfold cumS at H1
      rw [hp, hq] at H1
      have c9 := (H1.1.cell (p := ad1.add k) (by rw [block_of_add]; exact hadB)).trans hcx
      obtain ⟨c0, c1, c2, c3, c4⟩ := sat_of H1.2.1
      have HH := Lib.hid H1
      have HPq := Lib.hid (⟨hp, hq⟩ : Strut.mostOf (xs.take (k + 1)) = p ∧ Strut.leastOf (xs.take (k + 1)) = q)
      clear H H1 hp hq hp1 hq1 e1 e2 hm hcx hadB hrn hB1
      go_upto_region 9 with (first
        | (go_at_call 9; refine (gwith_is HW.out wr).mono ?_; rintro e w3 ⟨rfl, k3⟩; clear c0 c1 c2 c3 c4 c9; have z0 := HH.out.2.1.below (by simp) k3; obtain ⟨c0, c1, c2, c3, c4⟩ := sat_of z0; obtain ⟨f0, f1, f2, f3, f4⟩ := sfr_of z0; have K3 := Lib.hid (⟨thru HH.out.1 k3, z0, HH.out.2.2.below (by simp) k3⟩ : Below w.heap.size w w3 ∧ Lies w3 b7 (sprow ⟨y, p, q, false, false⟩) ∧ Lies w3 b8 (sprow (clrS y xs (min (k + 1) K)))); clear k3 z0 HH))
      generalize hV : World.setCell (World.setCell (World.setCell (World.setCell (World.setCell w3 _ _) _ _) _ _) _ _) _ _ = V
      have zV : Below w.heap.size w V ∧ Lies V b7 (sprow (cumS y xs (k + 1 + 1))) ∧ Lies V b8 (sprow (clrS y xs (min (k + 1) K))) := by
        rw [← hV]
        have sv := Save.five w3 b7 (.int .i64 y) (.int .i64 p1) (.int .i64 q1) (.bool false) (.bool false)
        unfold cumS
        rw [HE.out.1, HE.out.2]
        exact ⟨K3.out.1.trans (sv.blw HB.out.1 K3.out.1.size), K3.out.2.1.five _ _ _ _ _, K3.out.2.2.save (by simp) sv (fun e => HB.out.2.2 e.symm)⟩
      have HV := Lib.hid zV
      clear zV hV K3 c0 c1 c2 c3 c4 f0 f1 f2 f3 f4
      by_cases hkK : k + 1 < K
      · have hki2 : (k : Int) + 1 < (K : Int) := by omega
        have hmin : min (k + 1) K = k + 1 := by omega
        have hmin2 : min (k + 1 + 1) K = k + 1 + 1 := by omega
        have H2 := HV.out.2.2
        rw [hmin] at H2
        unfold clrS at H2
        rw [HPq.out.1, HPq.out.2] at H2
        have H22 := Lib.hid (⟨HV.out.1, HV.out.2.1, H2⟩ : Below w.heap.size w V ∧ Lies V b7 (sprow (cumS y xs (k + 1 + 1))) ∧ Lies V b8 (sprow ⟨y, p, q, false, true⟩))
        obtain ⟨c0, c1, c2, c3, c4⟩ := sat_of H2
        have HMi := Lib.hid hmin2
        clear H2 HV hmin hmin2 hkK
        go_upto_region 11 with (first
          | (go_at_call 9; refine (gwith_is HW2.out V).mono ?_; rintro e w5 ⟨rfl, k5⟩; clear c0 c1 c2 c3 c4; have z0 := H22.out.2.2.below (by simp) k5; obtain ⟨c0, c1, c2, c3, c4⟩ := sat_of z0; obtain ⟨f0, f1, f2, f3, f4⟩ := sfr_of z0; have K5 := Lib.hid (⟨thru H22.out.1 k5, H22.out.2.1.below (by simp) k5, z0⟩ : Below w.heap.size w w5 ∧ Lies w5 b7 (sprow (cumS y xs (k + 1 + 1))) ∧ Lies w5 b8 (sprow ⟨y, p, q, false, true⟩)); clear k5 z0 H22))
        generalize hV : World.setCell (World.setCell (World.setCell (World.setCell (World.setCell w5 _ _) _ _) _ _) _ _) _ _ = U
        have zU : Below w.heap.size w U ∧ Lies U b7 (sprow (cumS y xs (k + 1 + 1))) ∧ Lies U b8 (sprow ⟨y, p1, q1, false, true⟩) := by
          rw [← hV]
          have sv := Save.five w5 b8 (.int .i64 y) (.int .i64 p1) (.int .i64 q1) (.bool false) (.bool true)
          exact ⟨K5.out.1.trans (sv.blw HB.out.2.1 K5.out.1.size), K5.out.2.1.save (by simp) sv HB.out.2.2, K5.out.2.2.five _ _ _ _ _⟩
        have HU := Lib.hid zU
        clear zU hV K5 c0 c1 c2 c3 c4 f0 f1 f2 f3 f4
        obtain ⟨c0, c1, c2, c3, c4⟩ := sat_of HU.out.2.2
        go_wp2_with (first
          | (go_at_call 20; refine (gat_is (a := y) HFi.out rfl U).mono ?_; rintro e w7 ⟨rfl, k7⟩; have K7 := Lib.hid (⟨thru HU.out.1 k7, HU.out.2.1.below (by simp) k7, HU.out.2.2.below (by simp) k7⟩ : Below w.heap.size w w7 ∧ Lies w7 b7 (sprow (cumS y xs (k + 1 + 1))) ∧ Lies w7 b8 (sprow ⟨y, p1, q1, false, true⟩)); clear k7 c0 c1 c2 c3 c4))
        go_roundw
        case rel =>
          refine ⟨k + 1, by omega, by go_num, Lib.hid ⟨K7.out.1, K7.out.2.1, ?_⟩⟩
          rw [HMi.out]
          unfold clrS
          rw [HE.out.1, HE.out.2]
          exact K7.out.2.2
        case measure => simp [intOf]; omega
      · have hki2 : ¬ (k : Int) + 1 < (K : Int) := by omega
        have HMi := Lib.hid (show min (k + 1) K = min (k + 1 + 1) K by omega)
        clear hkK
        go_wp2_with fail
        go_roundw
        case rel => exact ⟨k + 1, by omega, by go_num, Lib.hid ⟨HV.out.1, HV.out.2.1, by rw [← HMi.out]; exact HV.out.2.2⟩⟩
        case measure => simp [intOf]; omega
    · obtain rfl : k = r := by omega
      have h1 := H.out
      unfold cumS clrS at h1
      rw [show min (k + 1) K = K by have := HK.out; have := HXX.out.2; omega, List.take_of_length_le (show xs.length ≤ k + 1 by have := HN.out; have := HXX.out.2; omega), HPQ.out.1, HPQ.out.2.1, HPK.out.1, HPK.out.2.1] at h1
      have HE := Lib.hid h1
      clear h1 H hk E6
      obtain ⟨wo, hwo⟩ : ∃ x, x = wr := ⟨_, rfl⟩
      subst hwo
      have HZ := Lib.hid (fun w' (l : Below wo.heap.size wo w') => (⟨HE.out.2.1.below (by simp) l, HE.out.2.2.below (by simp) l⟩ : Lies w' b7 (sprow ⟨y, P, Q, false, false⟩) ∧ Lies w' b8 (sprow ⟨y, PK, QK, false, true⟩)))
      have HSu := Lib.hid (fun w' (l : Below w.heap.size w w') => gsum_is (A := some ad) (n := n) (c := c) (xs := xs) (v := S) (by rw [HPQ.out.1, HPQ.out.2.1]; exact HPQ.out.2.2) HN.out.1 (by have := HN.out; omega) HA5.out w' w'.heap.size (HX.out.thru l))
      have HCK := Lib.hid (⟨by have := HY.out; have := HPK.out; unfold FineS; dsimp only; omega, by show (⟨y + 0, 0, 0, false, false⟩ : Sp) = _; simp⟩ : FineS ⟨y, PK, QK, false, true⟩ ∧ fixS ⟨y, PK, QK, false, true⟩ 0 = ⟨y, 0, 0, false, false⟩)
      go_upto_region 14 with fail
      refine HoldAll.wp_region_hold_all [.val (.agg #[.int .i64 y, .int .i64 P, .int .i64 Q, .bool false, .bool false]), .val (.int .i64 a), .val (.int .i64 y), .val (.slice (some ad) n c), .val (.int .i64 S), .val (.int .i64 a), .val (.bool false), .val (.bool false), .val (.agg #[.int .i64 y, .int .i64 P, .int .i64 Q, .bool false, .bool false]), .val (.agg #[.int .i64 a3, .int .i64 0, .int .i64 0, .bool false, .bool false]), .val (.agg #[.int .i64 y, .int .i64 P, .int .i64 Q, .bool false, .bool false]), .val (.int .i64 a), .val (.int .i64 a3), .val (.agg #[.int .i64 a3, .int .i64 0, .int .i64 0, .bool false, .bool false]), .val (.bool false), .val (.bool false), .val (.bool false), .val (.agg #[.int .i64 y, .int .i64 PK, .int .i64 QK, .bool false, .bool true]), .val (.agg #[.int .i64 y, .int .i64 0, .int .i64 0, .bool false, .bool false]), .val (.int .i64 y), .val (.agg #[.int .i64 y, .int .i64 0, .int .i64 0, .bool false, .bool false]), .val (.bool false), .val (.bool false)] (by kernel_rfl) (by kernel_rfl) (by kernel_rfl) ?_ ?_
      · simp only [Hold.fill, Hold.Leave.value]
        refine ⟨?_, ?_, ?_, ?_, ?_, ?_, ?_, ?_, ?_, ?_, ?_, ?_, ?_, ?_, ?_, ?_, ?_, ?_, ?_, ?_, ?_, ?_, ?_, trivial⟩
        · intro gg w' hw hk
          have q0 : w'.cell? ⟨b7, 0, none⟩ = some (.int .i64 y) := ((HZ.out w' hw).1).at' 0
          have q1 : w'.cell? ⟨b7, 1, none⟩ = some (.int .i64 P) := ((HZ.out w' hw).1).at' 1
          have q2 : w'.cell? ⟨b7, 2, none⟩ = some (.int .i64 Q) := ((HZ.out w' hw).1).at' 2
          have q3 : w'.cell? ⟨b7, 3, none⟩ = some (.bool false) := ((HZ.out w' hw).1).at' 3
          have q4 : w'.cell? ⟨b7, 4, none⟩ = some (.bool false) := ((HZ.out w' hw).1).at' 4
          go_simp
          exact ⟨rfl, rfl⟩
        · intro gg w' hw hk
          go_simp
          exact Hold.stays_call (gat_is HAT.out.1 HAT.out.2.1 w')
        · intro gg w' hw hk
          go_simp
          exact ⟨rfl, rfl⟩
        · intro gg w' hw hk
          go_simp
          exact ⟨rfl, rfl⟩
        · intro gg w' hw hk
          go_simp
          exact Hold.stays_call (HSu.out w' (thru HE.out.1 hw))
        · intro gg w' hw hk
          go_simp
          exact ⟨rfl, rfl⟩
        · intro gg w' hw hk
          go_simp
          exact ⟨rfl, rfl⟩
        · intro gg w' hw hk
          go_simp
          exact ⟨rfl, rfl⟩
        · intro gg w' hw hk
          have q0 : w'.cell? ⟨b7, 0, none⟩ = some (.int .i64 y) := ((HZ.out w' hw).1).at' 0
          have q1 : w'.cell? ⟨b7, 1, none⟩ = some (.int .i64 P) := ((HZ.out w' hw).1).at' 1
          have q2 : w'.cell? ⟨b7, 2, none⟩ = some (.int .i64 Q) := ((HZ.out w' hw).1).at' 2
          have q3 : w'.cell? ⟨b7, 3, none⟩ = some (.bool false) := ((HZ.out w' hw).1).at' 3
          have q4 : w'.cell? ⟨b7, 4, none⟩ = some (.bool false) := ((HZ.out w' hw).1).at' 4
          go_simp
          exact ⟨rfl, rfl⟩
        · intro gg w' hw hk
          go_simp
          exact Hold.stays_call (gfix_is HAT.out.1 (by omega) HAT.out.2.2 w')
        · intro gg w' hw hk
          have q0 : w'.cell? ⟨b7, 0, none⟩ = some (.int .i64 y) := ((HZ.out w' hw).1).at' 0
          have q1 : w'.cell? ⟨b7, 1, none⟩ = some (.int .i64 P) := ((HZ.out w' hw).1).at' 1
          have q2 : w'.cell? ⟨b7, 2, none⟩ = some (.int .i64 Q) := ((HZ.out w' hw).1).at' 2
          have q3 : w'.cell? ⟨b7, 3, none⟩ = some (.bool false) := ((HZ.out w' hw).1).at' 3
          have q4 : w'.cell? ⟨b7, 4, none⟩ = some (.bool false) := ((HZ.out w' hw).1).at' 4
          go_simp
          exact ⟨rfl, rfl⟩
        · intro gg w' hw hk
          go_simp
          exact Hold.stays_call (gat_is HAT.out.1 HAT.out.2.1 w')
        · intro gg w' hw hk
          go_simp
          exact ⟨rfl, rfl⟩
        · intro gg w' hw hk
          go_simp
          exact ⟨rfl, rfl⟩
        · intro gg w' hw hk
          go_simp
          exact ⟨rfl, rfl⟩
        · intro gg w' hw hk
          go_simp
          exact ⟨rfl, rfl⟩
        · intro gg w' hw hk
          go_simp
          exact ⟨rfl, rfl⟩
        · intro gg w' hw hk
          have q0 : w'.cell? ⟨b8, 0, none⟩ = some (.int .i64 y) := ((HZ.out w' hw).2).at' 0
          have q1 : w'.cell? ⟨b8, 1, none⟩ = some (.int .i64 PK) := ((HZ.out w' hw).2).at' 1
          have q2 : w'.cell? ⟨b8, 2, none⟩ = some (.int .i64 QK) := ((HZ.out w' hw).2).at' 2
          have q3 : w'.cell? ⟨b8, 3, none⟩ = some (.bool false) := ((HZ.out w' hw).2).at' 3
          have q4 : w'.cell? ⟨b8, 4, none⟩ = some (.bool true) := ((HZ.out w' hw).2).at' 4
          go_simp
          exact ⟨rfl, rfl⟩
        · intro gg w' hw hk
          go_simp
          exact Hold.stays_call (gfix_is HCK.out.1 (by omega) HCK.out.2 w')
        · intro gg w' hw hk
          go_simp
          exact ⟨rfl, rfl⟩
        · intro gg w' hw hk
          go_simp
          exact ⟨rfl, rfl⟩
        · intro gg w' hw hk
          go_simp
          exact ⟨rfl, rfl⟩
        · intro gg w' hw hk
          go_simp
          exact ⟨rfl, rfl⟩
      intro gg w3 k3 hgg
      clear hgg
      simp only [Hold.fill, Hold.Leave.value]
      have E3 := Lib.hid (⟨thru HE.out.1 k3, (HZ.out w3 k3).2⟩ : Below w.heap.size w w3 ∧ Lies w3 b8 (sprow ⟨y, PK, QK, false, true⟩))
      clear k3 HZ HE
      go_simp
      by_cases hKn : K = n
      · have hkb : ((K : Int) == (n : Int)) = true := by simp; omega
        have hki3 : (K : Int) = (n : Int) := by omega
        clear hKn
        go_wp2_with fail
        go_ret
        exact ⟨rfl, E3.out.1⟩
      · have hkb : ((K : Int) == (n : Int)) = false := by simp; omega
        have hki3 : ¬ (K : Int) = (n : Int) := by omega
        have hKlt : K < n := by have := HK.out; omega
        have hKi : (K : Int) < (n : Int) := by omega
        have hK0 : ¬ (K : Int) < 0 := by omega
        obtain ⟨ad1, hA1, hadB, hcx⟩ := HX.out K (by have := HN.out; omega)
        obtain rfl : ad = ad1 := by injection hA1
        clear hA1
        have e1 := mostOf_take xs K (by have := HN.out; omega)
        have e2 := leastOf_take xs K (by have := HN.out; omega)
        obtain ⟨m, hm⟩ : ∃ m, xs.getD K 0 = m := ⟨_, rfl⟩
        rw [hm] at e1 e2 hcx
        rw [HPK.out.1] at e1
        rw [HPK.out.2.1] at e2
        obtain ⟨p1, hp1⟩ : ∃ z, max PK m = z := ⟨_, rfl⟩
        obtain ⟨q1, hq1⟩ : ∃ z, min QK m = z := ⟨_, rfl⟩
        rw [hp1] at e1
        rw [hq1] at e2
        obtain ⟨SK, hSK⟩ : ∃ z, PK + QK = z := ⟨_, rfl⟩
        obtain ⟨yk, hyk⟩ : ∃ z, y - SK = z := ⟨_, rfl⟩
        obtain ⟨v, hv⟩ : ∃ z, yk + S = z := ⟨_, rfl⟩
        have hb1 := HT.out K
        have hb2 := HT.out n
        rw [HPK.out.1, HPK.out.2.1] at hb1
        rw [List.take_of_length_le (show xs.length ≤ n by have := HN.out; omega), HPQ.out.1, HPQ.out.2.1] at hb2
        have hwyk : IntKind.i64.wrap (y - SK) = yk := by rw [← hyk]; exact IntWalk.i64_in _ (by have := HY.out; omega)
        have hwv : IntKind.i64.wrap (yk + S) = v := by rw [← hv]; exact IntWalk.i64_in _ (by have := HY.out; have := HPQ.out; omega)
        have HPas := Lib.hid (by show (⟨y - (PK + QK), max PK m, min QK m, true, false⟩ : Sp) = _; rw [hp1, hq1, hSK, hyk] : passS ⟨y, PK, QK, false, true⟩ m = ⟨yk, p1, q1, true, false⟩)
        have HEnd := Lib.hid (⟨by have := HY.out; unfold FineS; dsimp only; omega, by show yk + (P + Q) = v; have := HPQ.out; omega, hSK⟩ : FineS ⟨yk, P, Q, true, false⟩ ∧ atS ⟨yk, P, Q, true, false⟩ = v ∧ PK + QK = SK)
        have HC := Lib.hid (fun w' (l : Below w.heap.size w w') => (l.cell (p := ad.add K) (by rw [block_of_add]; exact hadB)).trans hcx)
        have HE2 := Lib.hid (⟨e1, e2⟩ : Strut.mostOf (xs.take (K + 1)) = p1 ∧ Strut.leastOf (xs.take (K + 1)) = q1)
        obtain ⟨K1, hK1⟩ : ∃ K1, K + 1 = K1 := ⟨_, rfl⟩
        have hwK1 : IntKind.i64.wrap ((K : Int) + 1) = (K1 : Int) := by rw [IntWalk.i64_in _ (by have := HN.out; omega)]; omega
        obtain ⟨X2, hX2⟩ : ∃ X, backA (some ad) c K1 = X := ⟨_, rfl⟩
        obtain ⟨r2, hr2⟩ : ∃ r, n - K1 = r := ⟨_, rfl⟩
        have HX2 := Nums.back' HX.out HN.out.1 HN.out.2.2.2 K1 (by have := HN.out; omega)
        rw [hX2] at HX2
        have HX3 := Lib.hid HX2
        have hK1n : K1 ≤ n := by omega
        have hK1c : K1 ≤ c := by have := HN.out; omega
        have hK1ni : (K1 : Int) ≤ (n : Int) := by omega
        have hK1ci : (K1 : Int) ≤ (c : Int) := by omega
        have hKn1 : K ≤ n := by omega
        have hKc1 : K ≤ c := by omega
        have hKni : (K : Int) ≤ (n : Int) := by omega
        have hKci : (K : Int) ≤ (c : Int) := by omega
        have HXX2 := Lib.hid (⟨hX2, hr2, hK1⟩ : backA (some ad) c K1 = X2 ∧ n - K1 = r2 ∧ K + 1 = K1)
        rw [hK1] at HE2
        have HSK := Lib.hid (fun w' (l : Below w.heap.size w w') => gsum_is (A := some ad) (n := K) (c := c) (xs := xs.take K) (v := SK) (by rw [HPK.out.1, HPK.out.2.1]; exact HEnd.out.2.2) (by rw [List.length_take]; have := HN.out; omega) (by have := HN.out; omega) (all50_take HA5.out K) w' w'.heap.size ((HX.out.thru l).front K))
        clear e1 e2 hm hcx hadB hp1 hq1 hSK hyk hv hb1 hb2 hX2 hr2 HX2 hK1 hKn hKlt
        have HZ := Lib.hid (fun w' (l : Below w3.heap.size w3 w') => E3.out.2.below (by simp) l)
        go_upto_region 18 with fail
        refine Hold.wp_region_hold [.val (.agg #[.int .i64 y, .int .i64 PK, .int .i64 QK, .bool false, .bool true]), .val (.slice (some ad) n c), .val (.int .i64 (K : Int)), .val (.pointer (some (ad.add K))), .val (.int .i64 m), .val (.agg #[.int .i64 yk, .int .i64 p1, .int .i64 q1, .bool true, .bool false])] (by kernel_rfl) (by kernel_rfl) (by kernel_rfl) ?_ ?_
        · simp only [Hold.fill, Hold.Leave.value]
          refine ⟨?_, ?_, ?_, ?_, ?_, ?_, trivial⟩
          · intro gg w' hw hk
            have q0 : w'.cell? ⟨b8, 0, none⟩ = some (.int .i64 y) := (HZ.out w' hw).at' 0
            have q1 : w'.cell? ⟨b8, 1, none⟩ = some (.int .i64 PK) := (HZ.out w' hw).at' 1
            have q2 : w'.cell? ⟨b8, 2, none⟩ = some (.int .i64 QK) := (HZ.out w' hw).at' 2
            have q3 : w'.cell? ⟨b8, 3, none⟩ = some (.bool false) := (HZ.out w' hw).at' 3
            have q4 : w'.cell? ⟨b8, 4, none⟩ = some (.bool true) := (HZ.out w' hw).at' 4
            go_simp
            exact ⟨rfl, rfl⟩
          · intro gg w' hw hk
            go_simp
            exact ⟨rfl, rfl⟩
          · intro gg w' hw hk
            go_simp
            exact ⟨rfl, rfl⟩
          · intro gg w' hw hk
            go_simp
            exact ⟨rfl, rfl⟩
          · intro gg w' hw hk
            have q0 := HC.out w' (thru E3.out.1 hw)
            go_simp
            exact ⟨rfl, rfl⟩
          · intro gg w' hw hk
            go_simp
            exact Hold.stays_call (gpass_is HCK.out.1 HPas.out w')
        intro gg w5 k5 hgg
        clear hgg
        simp only [Hold.fill, Hold.Leave.value, List.length_cons, List.length_nil, List.drop_succ_cons, List.drop_zero]
        have z0 := HZ.out w5 k5
        obtain ⟨c0, c1, c2, c3, c4⟩ := sat_of z0
        obtain ⟨f0, f1, f2, f3, f4⟩ := sfr_of z0
        have K5 := Lib.hid (⟨thru E3.out.1 k5, z0⟩ : Below w.heap.size w w5 ∧ Lies w5 b8 (sprow ⟨y, PK, QK, false, true⟩))
        clear z0 k5 HZ E3
        go_simp
        go_upto_region 19 with fail
        generalize hV : World.setCell (World.setCell (World.setCell (World.setCell (World.setCell w5 _ _) _ _) _ _) _ _) _ _ = V
        have zV : Below w.heap.size w V ∧ Lies V b8 (sprow (pasS yk xs (K1 + 0))) := by
          rw [← hV]
          have sv := Save.five w5 b8 (.int .i64 yk) (.int .i64 p1) (.int .i64 q1) (.bool true) (.bool false)
          unfold pasS
          rw [Nat.add_zero, HE2.out.1, HE2.out.2]
          exact ⟨K5.out.1.trans (sv.blw HB.out.2.1 K5.out.1.size), K5.out.2.five _ _ _ _ _⟩
        have HV := Lib.hid zV
        clear zV hV K5 c0 c1 c2 c3 c4 f0 f1 f2 f3 f4
        go_upto_region 20 with (first
          | ((with_reducible refine wpList_slice _ rfl (.tmp 107) (some (.tmp 109)) none none rfl (.slice X2 r2 (c - K1)) ?_ ?_); rw [← HXX2.out.1, ← HXX2.out.2.1]; go_simp; exact ⟨rfl, rfl⟩))
        go_loopw [112] (fun i wr => ∃ k : Nat, k ≤ r2 ∧ i = .int .i64 (k : Int) ∧ Hid (Below w.heap.size w wr ∧ Lies wr b8 (sprow (pasS yk xs (K1 + k))))) (fun i _ => r2 - (intOf i).toNat)
        case atStart => exact ⟨0, Nat.zero_le _, rfl, HV⟩
        case round =>
          obtain ⟨k, hk, rfl, H⟩ := hrel
          by_cases hlt : k < r2
          · have hki : (k : Int) < (r2 : Int) := by omega
            have hk0 : ¬ (k : Int) < 0 := by omega
            have hrn := HXX2.out.2.1
            have hwk : IntKind.i64.wrap ((k : Int) + 1) = (k : Int) + 1 := by have := HN.out; exact IntWalk.i64_in _ (by omega)
            obtain ⟨ad1, hA1, hadB, hcx⟩ := HX3.out k (by rw [List.length_drop]; have := HN.out; omega)
            subst hA1
            rw [getD_drop] at hcx
            obtain ⟨p, hp⟩ : ∃ p, Strut.mostOf (xs.take (K1 + k)) = p := ⟨_, rfl⟩
            obtain ⟨q, hq⟩ : ∃ q, Strut.leastOf (xs.take (K1 + k)) = q := ⟨_, rfl⟩
            have e1 := mostOf_take xs (K1 + k) (by have := HN.out; omega)
            have e2 := leastOf_take xs (K1 + k) (by have := HN.out; omega)
            obtain ⟨m, hm⟩ : ∃ m, xs.getD (K1 + k) 0 = m := ⟨_, rfl⟩
            rw [hm] at e1 e2 hcx
            rw [hp] at e1
            rw [hq] at e2
            obtain ⟨p1, hp1⟩ : ∃ z, max p m = z := ⟨_, rfl⟩
            obtain ⟨q1, hq1⟩ : ∃ z, min q m = z := ⟨_, rfl⟩
            rw [hp1] at e1
            rw [hq1] at e2
            have HW := Lib.hid (by show (⟨yk, max p m, min q m, true, false⟩ : Sp) = _; rw [hp1, hq1] : withS ⟨yk, p, q, true, false⟩ m = ⟨yk, p1, q1, true, false⟩)
            have HE := Lib.hid (⟨e1, e2⟩ : Strut.mostOf (xs.take ((K1 + k) + 1)) = p1 ∧ Strut.leastOf (xs.take ((K1 + k) + 1)) = q1)
            have H1 := H.out
            unfold pasS at H1
            rw [hp, hq] at H1
            have c9 := (H1.1.cell (p := ad1.add k) (by rw [block_of_add]; exact hadB)).trans hcx
            obtain ⟨c0, c1, c2, c3, c4⟩ := sat_of H1.2
            have HH := Lib.hid H1
            clear H H1 hp hq hp1 hq1 e1 e2 hm hcx hadB hrn
            go_wp2_with (first
              | (go_at_call 9; refine (gwith_is HW.out wr).mono ?_; rintro e w6 ⟨rfl, k6⟩; clear c0 c1 c2 c3 c4 c9; have z0 := HH.out.2.below (by simp) k6; obtain ⟨c0, c1, c2, c3, c4⟩ := sat_of z0; obtain ⟨f0, f1, f2, f3, f4⟩ := sfr_of z0; have K6 := Lib.hid (⟨thru HH.out.1 k6, z0⟩ : Below w.heap.size w w6 ∧ Lies w6 b8 (sprow ⟨yk, p, q, true, false⟩)); clear k6 z0 HH))
            go_roundw
            case rel =>
              refine ⟨k + 1, by omega, by go_num, Lib.hid ?_⟩
              unfold pasS
              rw [← Nat.add_assoc, HE.out.1, HE.out.2]
              have sv := Save.five w6 b8 (.int .i64 yk) (.int .i64 p1) (.int .i64 q1) (.bool true) (.bool false)
              exact ⟨K6.out.1.trans (sv.blw HB.out.2.1 K6.out.1.size), K6.out.2.five _ _ _ _ _⟩
            case measure => simp [intOf]; omega
          · obtain rfl : k = r2 := by omega
            have h1 := H.out
            unfold pasS at h1
            rw [List.take_of_length_le (show xs.length ≤ K1 + k by have := HN.out; have := HXX2.out.2; omega), HPQ.out.1, HPQ.out.2.1] at h1
            have HE := Lib.hid h1
            clear h1 H hk HV
            obtain ⟨wp, hwp⟩ : ∃ x, x = wr := ⟨_, rfl⟩
            subst hwp
            go_upto_region 24 with fail
            have HZ := Lib.hid (fun w' (l : Below wp.heap.size wp w') => HE.out.2.below (by simp) l)
            refine Hold.wp_region_hold [.val (.pointer (some ⟨b8, 3, none⟩)), .val (.bool true), .val (.bool true), .val (.pointer (some ⟨b8, 4, none⟩)), .val (.bool false), .val (.bool true), .val (.bool true), .val (.bool true), .val (.agg #[.int .i64 yk, .int .i64 P, .int .i64 Q, .bool true, .bool false]), .val (.int .i64 v), .val (.int .i64 y), .val (.slice (some ad) n c), .val (.int .i64 (K : Int)), .val (.slice (some ad) K c), .val (.int .i64 SK), .val (.int .i64 yk), .val (.slice (some ad) n c), .val (.int .i64 S), .val (.int .i64 v), .val (.bool true), .val (.bool true)] (by kernel_rfl) (by kernel_rfl) (by kernel_rfl) ?_ ?_
            · simp only [Hold.fill, Hold.Leave.value]
              refine ⟨?_, ?_, ?_, ?_, ?_, ?_, ?_, ?_, ?_, ?_, ?_, ?_, ?_, ?_, ?_, ?_, ?_, ?_, ?_, ?_, ?_, trivial⟩
              · intro gg w' hw hk
                go_simp
                exact ⟨rfl, rfl⟩
              · intro gg w' hw hk
                have q0 : w'.cell? ⟨b8, 3, none⟩ = some (.bool true) := (HZ.out w' hw).at' 3
                go_simp
                exact ⟨rfl, rfl⟩
              · intro gg w' hw hk
                go_simp
                exact ⟨rfl, rfl⟩
              · intro gg w' hw hk
                go_simp
                exact ⟨rfl, rfl⟩
              · intro gg w' hw hk
                have q0 : w'.cell? ⟨b8, 4, none⟩ = some (.bool false) := (HZ.out w' hw).at' 4
                go_simp
                exact ⟨rfl, rfl⟩
              · intro gg w' hw hk
                go_simp
                exact ⟨rfl, rfl⟩
              · intro gg w' hw hk
                go_simp
                exact ⟨rfl, rfl⟩
              · intro gg w' hw hk
                go_simp
                exact ⟨rfl, rfl⟩
              · intro gg w' hw hk
                have q0 : w'.cell? ⟨b8, 0, none⟩ = some (.int .i64 yk) := (HZ.out w' hw).at' 0
                have q1 : w'.cell? ⟨b8, 1, none⟩ = some (.int .i64 P) := (HZ.out w' hw).at' 1
                have q2 : w'.cell? ⟨b8, 2, none⟩ = some (.int .i64 Q) := (HZ.out w' hw).at' 2
                have q3 : w'.cell? ⟨b8, 3, none⟩ = some (.bool true) := (HZ.out w' hw).at' 3
                have q4 : w'.cell? ⟨b8, 4, none⟩ = some (.bool false) := (HZ.out w' hw).at' 4
                go_simp
                exact ⟨rfl, rfl⟩
              · intro gg w' hw hk
                go_simp
                exact Hold.stays_call (gat_is HEnd.out.1 HEnd.out.2.1 w')
              · intro gg w' hw hk
                go_simp
                exact ⟨rfl, rfl⟩
              · intro gg w' hw hk
                go_simp
                exact ⟨rfl, rfl⟩
              · intro gg w' hw hk
                go_simp
                exact ⟨rfl, rfl⟩
              · intro gg w' hw hk
                go_simp
                exact ⟨rfl, rfl⟩
              · intro gg w' hw hk
                go_simp
                exact Hold.stays_call (HSK.out w' (thru HE.out.1 hw))
              · intro gg w' hw hk
                go_simp
                exact ⟨rfl, rfl⟩
              · intro gg w' hw hk
                go_simp
                exact ⟨rfl, rfl⟩
              · intro gg w' hw hk
                go_simp
                exact Hold.stays_call (HSu.out w' (thru HE.out.1 hw))
              · intro gg w' hw hk
                go_simp
                exact ⟨rfl, rfl⟩
              · intro gg w' hw hk
                go_simp
                exact ⟨rfl, rfl⟩
              · intro gg w' hw hk
                go_simp
                exact ⟨rfl, rfl⟩
            intro gg w9 k9 hgg
            clear hgg
            simp only [Hold.fill, Hold.Leave.value, List.length_cons, List.length_nil, List.drop_succ_cons, List.drop_zero]
            go_simp
            go_wp2_with fail
            go_ret
            exact ⟨rfl, thru HE.out.1 k9⟩

theorem coll_any (y : Int) (A : Option Addr) (n c : Nat) (xs : List Int) (cu : Int) (hcu : 0 ≤ cu ∧ cu ≤ 255) (w : World) (hn : n = xs.length) (hc : n ≤ c) (hz : A = none → c = 0) (hx : Nums w w.heap.size A xs) :
    Calls Try.prog 4 #[.int .i64 y, .slice A n c, .int .u8 cu] w fun e w' => e = .returned (.bool true) ∧ Below w.heap.size w w' := by
  by_cases h40 : n ≤ 40
  · by_cases h0 : n = 0
    · exact coll_nil y A n c xs cu hcu w hn hc hz hx h0
    · cases hs : ([y] ++ xs).all in50 with
      | false => exact coll_no y A n c xs cu hcu w hn hc hz hx h40 (by omega) hs
      | true => exact coll_yes y A n c xs cu hcu w hn hc hz hx h40 (by omega) hs
  · exact coll_long y A n c xs cu hcu w hn hc hz hx h40

end Go.Proofs.Ytkjbimoflmkekaa.Spot
