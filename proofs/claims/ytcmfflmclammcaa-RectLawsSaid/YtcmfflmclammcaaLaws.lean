/- The walk of RectLaws. -/
import Derived.Test.YtcmfflmclammcaaList
namespace Go.Proofs.Ytcmfflmclammcaa
open Go.RowKit Go.Sort

def in58 (n : Int) : Bool := decide (-288230376151711744 ≤ n ∧ n ≤ 288230376151711744)

theorem in58_mem {xs : List Int} (h : xs.all in58 = true) {x : Int} (hx : x ∈ xs) : -288230376151711744 ≤ x ∧ x ≤ 288230376151711744 := by
  have := List.all_eq_true.1 h x hx
  simpa [in58] using this

theorem Own.cells {W V : World} {A : Option Addr} {n c : Nat} {xs : List Int} (h : Own W A n c xs V) (hn : 0 < n) : ∃ g, A = some ⟨g, 0, none⟩ ∧ ∀ k, k < n → V.cell? ⟨g, k, none⟩ = some (.int .i64 (xs.getD k 0)) := by
  have hl := h.1.len
  rcases h.1.cell 0 (by omega) with ⟨g, e, _, _, _⟩
  refine ⟨g, e, fun k hk => ?_⟩
  obtain ⟨g', e', _, _, hc⟩ := h.1.cell k (by omega)
  rw [e] at e'
  injection e' with e'
  injection e' with e'
  subst e'
  rw [Addr.add_lit, Nat.zero_add] at hc
  exact hc

theorem small_n (b c n : Nat) (xs : List Int) (w : World) (hn : xs.length = n) (hlen : n ≤ 1000000) (hx : ∀ k, k < n → w.cell? ⟨b, k, none⟩ = some (.int .i64 (xs.getD k 0))) (v : Bool) (hv : xs.all inB = v) :
    Calls Try.prog 6 #[.slice (some ⟨b, 0, none⟩) n c] w fun e w' => e = .returned (.bool v) ∧ w = w' := by
  subst hn
  exact small_is b 0 c xs w hlen (fun k hk => by rw [Nat.zero_add]; exact hx k hk) v hv

theorem shift_back (l t r b x y : Int) (hl : -1152921504606846976 ≤ l + x ∧ l + x ≤ 1152921504606846976) (ht : -1152921504606846976 ≤ t + y ∧ t + y ≤ 1152921504606846976) (hr : -1152921504606846976 ≤ r + x ∧ r + x ≤ 1152921504606846976)
    (hb : -1152921504606846976 ≤ b + y ∧ b + y ≤ 1152921504606846976) (hx : -1152921504606846976 ≤ -x ∧ -x ≤ 1152921504606846976) (hy : -1152921504606846976 ≤ -y ∧ -y ≤ 1152921504606846976) (w : World) :
    Calls Try.prog 14 #[.agg #[.int .i64 (l + x), .int .i64 (t + y), .int .i64 (r + x), .int .i64 (b + y)], .int .i64 (-x), .int .i64 (-y)] w
      fun e w' => e = .returned (.agg #[.int .i64 l, .int .i64 t, .int .i64 r, .int .i64 b]) ∧ Below w.heap.size w w' := by
  have h := shift_any (l + x) (t + y) (r + x) (b + y) (-x) (-y) hl ht hr hb hx hy w
  rwa [Int.add_neg_cancel_right, Int.add_neg_cancel_right, Int.add_neg_cancel_right, Int.add_neg_cancel_right] at h

theorem grow_back (l t r b p q s u : Int) (hl : -1152921504606846976 ≤ l - u ∧ l - u ≤ 1152921504606846976) (ht : -1152921504606846976 ≤ t - p ∧ t - p ≤ 1152921504606846976) (hr : -1152921504606846976 ≤ r + q ∧ r + q ≤ 1152921504606846976)
    (hb : -1152921504606846976 ≤ b + s ∧ b + s ≤ 1152921504606846976) (hp : -1152921504606846976 ≤ -p ∧ -p ≤ 1152921504606846976) (hq : -1152921504606846976 ≤ -q ∧ -q ≤ 1152921504606846976)
    (hs : -1152921504606846976 ≤ -s ∧ -s ≤ 1152921504606846976) (hu : -1152921504606846976 ≤ -u ∧ -u ≤ 1152921504606846976) (w : World) :
    Calls Try.prog 16 #[.agg #[.int .i64 (l - u), .int .i64 (t - p), .int .i64 (r + q), .int .i64 (b + s)], .agg #[.int .i64 (-p), .int .i64 (-q), .int .i64 (-s), .int .i64 (-u)]] w
      fun e w' => e = .returned (.agg #[.int .i64 l, .int .i64 t, .int .i64 r, .int .i64 b]) ∧ Below w.heap.size w w' := by
  have h := grow_any (l - u) (t - p) (r + q) (b + s) (-p) (-q) (-s) (-u) hl ht hr hb hp hq hs hu w
  have e1 : l - u - -u = l := by omega
  have e2 : t - p - -p = t := by omega
  rwa [e1, e2, Int.add_neg_cancel_right, Int.add_neg_cancel_right] at h

theorem common_self (a0 a1 a2 a3 : Int) (w : World) :
    Calls Try.prog 12 #[.agg #[.int .i64 a0, .int .i64 a1, .int .i64 a2, .int .i64 a3], .agg #[.int .i64 a0, .int .i64 a1, .int .i64 a2, .int .i64 a3]] w
      fun e w' => e = .returned (.agg #[.int .i64 a0, .int .i64 a1, .int .i64 a2, .int .i64 a3]) ∧ Below w.heap.size w w' := by
  have h := common_any a0 a1 a2 a3 a0 a1 a2 a3 w
  have e1 : max a0 a0 = a0 := by omega
  have e2 : max a1 a1 = a1 := by omega
  have e3 : min a2 a2 = a2 := by omega
  have e4 : min a3 a3 = a3 := by omega
  rwa [e1, e2, e3, e4] at h

/-- Sixty to fifty-eight. -/
theorem b60 {x : Int} (h : -288230376151711744 ≤ x ∧ x ≤ 288230376151711744) : -1152921504606846976 ≤ x ∧ x ≤ 1152921504606846976 := by omega

set_option maxRecDepth 100000 in
set_option maxHeartbeats 4000000 in
theorem laws_any (a0 a1 a2 a3 b0 b1 b2 b3 right down p q s u : Int) (w : World) :
    Calls Try.prog 4 #[.agg #[.int .i64 a0, .int .i64 a1, .int .i64 a2, .int .i64 a3], .agg #[.int .i64 b0, .int .i64 b1, .int .i64 b2, .int .i64 b3], .int .i64 right, .int .i64 down, .agg #[.int .i64 p, .int .i64 q, .int .i64 s, .int .i64 u]] w
      fun e w' => e = .returned (.bool true) ∧ Below w.heap.size w w' := by
  go_enter Try.func4, Try.ntmps4
  go_upto_region 1 with fail
  generalize hW : World.alloc (World.alloc (World.alloc w _) _) _ = W
  obtain ⟨ra, rb, ry, kw⟩ := boxed3 w a0 a1 a2 a3 b0 b1 b2 b3 p q s u 23 23 22 W (by rw [hW]; exact Below.refl _ _)
  clear hW
  have RA := Lib.hid ra
  have RB := Lib.hid rb
  have RY := Lib.hid ry
  have KW := Lib.hid kw
  clear ra rb ry kw
  go_cut [11] (fun t wx => Listed W 14 ([right, down] ++ [a0, a1, a2, a3] ++ ([] ++ [b0, b1, b2, b3] ++ [p, q, s, u])) t wx)
  case first =>
    have FA := Lib.hid (first_A W right down)
    have FB := Lib.hid (first_B W right down)
    have FC := Lib.hid (first_C W right down)
    go_region_law (first
      | (refine step_append_mine _ rfl (.tmp 19) (.tmp 20) rfl W.heap.size (some ⟨W.heap.size, 0, none⟩) 2 2 [right, down] (by simp [Act.eval]) (by exact FA.out.mine1) (some ⟨w.heap.size, 0, none⟩) 4 4 [a0, a1, a2, a3] (by simp [Act.eval]) (by exact FA.out.1.src RA.out) (by omega) (by exact FA.out.1.size) ?_; intro A1 c1 V1 h1; have T1 := Lib.hid (FA.out.app1 h1); clear h1)
      | (refine step_append_mine _ rfl (.tmp 19) (.tmp 20) rfl W.heap.size (some ⟨W.heap.size + 1, 0, none⟩) 2 2 [right, down] (by simp [Act.eval]) (by exact FB.out.mine1) (some ⟨w.heap.size, 0, none⟩) 4 4 [a0, a1, a2, a3] (by simp [Act.eval]) (by exact FB.out.1.src RA.out) (by omega) (by exact FB.out.1.size) ?_; intro A1 c1 V1 h1; have T1 := Lib.hid (FB.out.app1 h1); clear h1)
      | (refine step_append_mine _ rfl (.tmp 19) (.tmp 20) rfl W.heap.size (some ⟨W.heap.size, 0, none⟩) 2 2 [right, down] (by simp [Act.eval]) (by exact FC.out.1) (some ⟨w.heap.size, 0, none⟩) 4 4 [a0, a1, a2, a3] (by simp [Act.eval]) (by exact FC.out.src RA.out) (by omega) (by exact FC.out.size) ?_; intro A1 c1 V1 h1; have T0 := FC.out.app h1; clear h1; have T1 := Lib.hid T0.beside; clear T0)
      | (refine step_append_mine _ rfl (.tmp 22) (.tmp 23) rfl W.heap.size (some ⟨W.heap.size + 1, 0, none⟩) 0 0 [] (by simp [Act.eval]) (by exact T1.out.mine2) (some ⟨w.heap.size + 1, 0, none⟩) 4 4 [b0, b1, b2, b3] (by simp [Act.eval]) (by exact T1.out.1.src RB.out) (by omega) (by exact T1.out.1.size) ?_; intro A2 c2 V2 h2; have T2 := Lib.hid (T1.out.app2 h2); clear h2)
      | (refine step_append_mine _ rfl (.tmp 22) (.tmp 23) rfl W.heap.size (some ⟨W.heap.size, 0, none⟩) 0 0 [] (by simp [Act.eval]) (by exact T1.out.mine2) (some ⟨w.heap.size + 1, 0, none⟩) 4 4 [b0, b1, b2, b3] (by simp [Act.eval]) (by exact T1.out.1.src RB.out) (by omega) (by exact T1.out.1.size) ?_; intro A2 c2 V2 h2; have T2 := Lib.hid (T1.out.app2 h2); clear h2)
      | (refine step_append_mine _ rfl (.tmp 22) (.tmp 23) rfl W.heap.size (some ⟨V1.heap.size, 0, none⟩) 0 0 [] (by simp [Act.eval]) (by exact T1.out.mine2) (some ⟨w.heap.size + 1, 0, none⟩) 4 4 [b0, b1, b2, b3] (by simp [Act.eval]) (by exact T1.out.1.src RB.out) (by omega) (by exact T1.out.1.size) ?_; intro A2 c2 V2 h2; have T2 := Lib.hid (T1.out.app2 h2); clear h2)
      | (refine step_append_mine _ rfl (.tmp 24) (.tmp 25) rfl W.heap.size A2 4 c2 ([] ++ [b0, b1, b2, b3]) (by simp [Act.eval]) (by exact T2.out.mine2) (some ⟨w.heap.size + 1 + 1, 0, none⟩) 4 4 [p, q, s, u] (by simp [Act.eval]) (by exact T2.out.1.src RY.out) (by omega) (by exact T2.out.1.size) ?_; intro A3 c3 V3 h3; have T3 := Lib.hid (T2.out.app2 h3); clear h3)
      | (refine step_append_mine _ rfl (.tmp 21) (.tmp 26) rfl W.heap.size A1 6 c1 ([right, down] ++ [a0, a1, a2, a3]) (by simp [Act.eval]) (by exact T3.out.mine1) A3 8 c3 ([] ++ [b0, b1, b2, b3] ++ [p, q, s, u]) (by simp [Act.eval]) (by exact T3.out.mine2.src) (by omega) (by exact T3.out.1.size) ?_; intro A4 c4 V4 h4; have T4 := Lib.hid (T3.out.1.app h4); clear h4))
    all_goals (go_wp2_with fail; go_meet; exact ⟨A4, c4, rfl, T4.out⟩)
  case rest =>
    unfold Listed at hcut
    obtain ⟨A, c, rfl, ho⟩ := hcut
    obtain ⟨xs, hxs⟩ : ∃ xs, xs = [right, down] ++ [a0, a1, a2, a3] ++ ([] ++ [b0, b1, b2, b3] ++ [p, q, s, u]) := ⟨_, rfl⟩
    rw [← hxs] at ho
    have HXS := Lib.hid hxs
    clear hxs
    have hlen := ho.1.len
    obtain ⟨g, rfl, hcells⟩ := ho.cells (by omega)
    replace RA := Lib.hid (RA.out.below ho.2)
    replace RB := Lib.hid (RB.out.below ho.2)
    replace RY := Lib.hid (RY.out.below ho.2)
    replace KW := Lib.hid (thru KW.out ho.2)
    have HC := Lib.hid hcells
    have HN := Lib.hid hlen
    clear ho hcells hlen
    go_wp2_with fail
    refine (speaks_any _).mono ?_; rintro e w1 ⟨rfl, k1⟩
    have HC1 : Hid (∀ k, k < 14 → w1.cell? ⟨g, k, none⟩ = some (.int .i64 (xs.getD k 0))) := Lib.hid (fun k hk => by
      have h := HC.out k hk
      rw [k1.cell (p := ⟨g, k, none⟩) (block_lt_of_cell h)]; exact h)
    replace RA := Lib.hid (RA.out.below k1)
    replace RB := Lib.hid (RB.out.below k1)
    replace RY := Lib.hid (RY.out.below k1)
    replace KW := Lib.hid (thru KW.out k1)
    clear k1 HC
    obtain ⟨sv, hsv⟩ : ∃ v, xs.all inB = v := ⟨_, rfl⟩
    have HS := Lib.hid hsv
    clear hsv
    go_wp2_with fail
    refine (small_n g c 14 xs w1 HN.out (by omega) HC1.out sv HS.out).mono ?_; rintro e w' ⟨rfl, rfl⟩
    cases sv
    · go_wp2_with fail
      refine (speaks_any _).mono ?_; rintro e w2 ⟨rfl, k2⟩
      go_wp2_with fail
      go_ret
      exact ⟨rfl, thru KW.out k2⟩
    · go_wp2_with fail
      go_loop [38] (fun i => ∃ k : Nat, k ≤ 14 ∧ i = .int .i64 k ∧ (xs.take k).all in58 = true) (fun i => 14 - (intOf i).toNat)
      case atStart => exact ⟨0, Nat.zero_le _, rfl, by simp⟩
      case round =>
        obtain ⟨k, hk, rfl, hal⟩ := hrel
        have HAL := Lib.hid hal
        clear hal
        by_cases hlt : k < 14
        · have hcx := HC1.out k hlt
          have HTN := Lib.hid (take_next xs k (by rw [HN.out]; exact hlt))
          obtain ⟨y, hy⟩ : ∃ y, y = xs.getD k 0 := ⟨_, rfl⟩
          rw [← hy] at hcx HTN
          clear hy
          go_wp2
          · go_ret
            exact ⟨rfl, KW.out⟩
          · have h1 : in58 y = true := by unfold in58; simp; omega
            go_round
            case rel => exact ⟨k + 1, by omega, by go_num, by rw [HTN.out, List.all_append, HAL.out]; simp [h1]⟩
            case measure => simp [intOf]; omega
          · go_ret
            exact ⟨rfl, KW.out⟩
        · obtain rfl : k = 14 := by omega
          have hall : xs.all in58 = true := by have := HAL.out; rwa [List.take_of_length_le (by rw [HN.out]; omega)] at this
          have Mright := Lib.hid (in58_mem hall (x := right) (by rw [HXS.out]; simp))
          have Mdown := Lib.hid (in58_mem hall (x := down) (by rw [HXS.out]; simp))
          have Ma0 := Lib.hid (in58_mem hall (x := a0) (by rw [HXS.out]; simp))
          have Ma1 := Lib.hid (in58_mem hall (x := a1) (by rw [HXS.out]; simp))
          have Ma2 := Lib.hid (in58_mem hall (x := a2) (by rw [HXS.out]; simp))
          have Ma3 := Lib.hid (in58_mem hall (x := a3) (by rw [HXS.out]; simp))
          have Mb0 := Lib.hid (in58_mem hall (x := b0) (by rw [HXS.out]; simp))
          have Mb1 := Lib.hid (in58_mem hall (x := b1) (by rw [HXS.out]; simp))
          have Mb2 := Lib.hid (in58_mem hall (x := b2) (by rw [HXS.out]; simp))
          have Mb3 := Lib.hid (in58_mem hall (x := b3) (by rw [HXS.out]; simp))
          have Mp := Lib.hid (in58_mem hall (x := p) (by rw [HXS.out]; simp))
          have Mq := Lib.hid (in58_mem hall (x := q) (by rw [HXS.out]; simp))
          have Ms := Lib.hid (in58_mem hall (x := s) (by rw [HXS.out]; simp))
          have Mu := Lib.hid (in58_mem hall (x := u) (by rw [HXS.out]; simp))
          clear hall hlt hk
          obtain ⟨vf, hf⟩ : ∃ v : Bool, (decide (a0 < a2) && decide (a1 < a3)) = v := ⟨_, rfl⟩
          obtain ⟨vm, hm⟩ : ∃ v : Bool, (decide (max a0 b0 < min a2 b2) && decide (max a1 b1 < min a3 b3)) = v := ⟨_, rfl⟩
          have hm2 : (decide (max b0 a0 < min b2 a2) && decide (max b1 a1 < min b3 a3)) = vm := by rw [← hm, Bool.eq_iff_iff]; simp <;> omega
          have hm3 : (decide (max a0 a0 < min a2 a2) && decide (max a1 a1 < min a3 a3)) = vf := by rw [← hf, Bool.eq_iff_iff]; simp
          have hm4 : (decide (max (a0 + right) (b0 + right) < min (a2 + right) (b2 + right)) && decide (max (a1 + down) (b1 + down) < min (a3 + down) (b3 + down))) = vm := by rw [← hm, Bool.eq_iff_iff]; simp <;> omega
          have HF := Lib.hid hf
          have HM := Lib.hid hm
          have HM2 := Lib.hid hm2
          have HM3 := Lib.hid hm3
          have HM4 := Lib.hid hm4
          clear hf hm hm2 hm3 hm4
          go_wp2_with fail
          refine wp_region_boxes [.val (.agg #[.int .i64 a0, .int .i64 a1, .int .i64 a2, .int .i64 a3]), .val (.agg #[.int .i64 a0, .int .i64 a1, .int .i64 a2, .int .i64 a3]),
            .val (.agg #[.int .i64 b0, .int .i64 b1, .int .i64 b2, .int .i64 b3]), .val (.agg #[.int .i64 b0, .int .i64 b1, .int .i64 b2, .int .i64 b3]),
            .box (.cells #[.int .i64 0, .int .i64 0, .int .i64 0, .int .i64 0] 28), .box (.cells #[.int .i64 0, .int .i64 0, .int .i64 0, .int .i64 0] 28)] (by kernel_rfl) (by kernel_rfl) ?_ ?_
          · simp only [fill, Yield.value]
            refine ⟨?_, ?_, ?_, ?_, ?_, ?_, trivial⟩
            · intro w' hw
              have hh := RA.out.below hw
              unfold R4 at hh
              go_simp
              exact stays_val
            · intro w' hw
              go_simp
              exact stays_call (of_any _ _ _ _ _)
            · intro w' hw
              have hh := RB.out.below hw
              unfold R4 at hh
              go_simp
              exact stays_val
            · intro w' hw
              go_simp
              exact stays_call (of_any _ _ _ _ _)
            · intro w'
              go_simp
            · intro w'
              go_simp
          · intro gg w2 k2 hbox hap
            obtain ⟨g4, h4⟩ := hbox 4 _ rfl
            obtain ⟨g5, h5⟩ := hbox 5 _ rfl
            have h45 := hap 4 5 _ _ (by decide) rfl rfl
            clear hbox hap
            have H45 := Lib.hid h45
            obtain ⟨c0, c1, c2, c3⟩ := R4.of_block h4
            obtain ⟨d0, d1, d2, d3⟩ := R4.of_block h5
            obtain ⟨f0, f1, f2, f3⟩ := free4 h4
            obtain ⟨e0, e1, e2, e3⟩ := free4 h5
            have X4 := Lib.hid h4
            have X5 := Lib.hid h5
            have K2 := Lib.hid k2
            clear h4 h5 k2
            simp only [fill, Yield.value, List.length_cons, List.length_nil, List.drop_succ_cons, List.drop_zero]
            change gg 4 ≠ gg 5 at h45
            have h54 := Ne.symm h45
            generalize gg 4 = p4 at *
            generalize gg 5 = p5 at *
            go_wp2_with fail
            generalize hw3 : World.setCell _ _ _ = w3
            obtain ⟨sa, sb, k3⟩ := stored_two K2.out g4 X4.out g5 X5.out H45.out a0 a1 a2 a3 b0 b1 b2 b3 w3 hw3.symm
            clear hw3 c0 c1 c2 c3 d0 d1 d2 d3 f0 f1 f2 f3 e0 e1 e2 e3 X4 X5 K2 h45 h54 H45 g4 g5
            have SA := Lib.hid sa
            have SB := Lib.hid sb
            replace RA := Lib.hid (RA.out.below k3)
            replace RB := Lib.hid (RB.out.below k3)
            replace RY := Lib.hid (RY.out.below k3)
            replace KW := Lib.hid (thru KW.out k3)
            clear sa sb k3
            obtain ⟨ra0, ra1, ra2, ra3⟩ := RA.out.grown
            obtain ⟨rb0, rb1, rb2, rb3⟩ := RB.out.grown
            obtain ⟨sa0, sa1, sa2, sa3⟩ := SA.out.grown
            obtain ⟨sb0, sb1, sb2, sb3⟩ := SB.out.grown
            obtain ⟨ry0, ry1, ry2, ry3⟩ := RY.out.grown
            refine wp_region_quiet_below (by kernel_rfl) (by kernel_rfl) ?_
            repeat (quiet_step (first
              | (go_at_call 10; with_reducible exact Calls.regrown_of (meet_is _ _ _ _ _ _ _ _ _ HM.out _))
              | (go_at_call 10; with_reducible exact Calls.regrown_of (meet_is _ _ _ _ _ _ _ _ _ HM2.out _))
              | (go_at_call 10; with_reducible exact Calls.regrown_of (meet_is _ _ _ _ _ _ _ _ _ HM3.out _))
              | (go_at_call 12; with_reducible exact Calls.regrown_of (common_any _ _ _ _ _ _ _ _ _))
              | (go_at_call 8; with_reducible exact Calls.regrown_of (full_is _ _ _ _ _ HM.out _))
              | (go_at_call 8; with_reducible exact Calls.regrown_of (full_is _ _ _ _ _ HF.out _))))
            refine wpQuiet_nil ?_
            intro _ hw'
            obtain ⟨⟨dq11, os11⟩, hw''⟩ := hw'
            subst hw''
            clear ra0 ra1 ra2 ra3 rb0 rb1 rb2 rb3 sa0 sa1 sa2 sa3 sb0 sb1 sb2 sb3 ry0 ry1 ry2 ry3
            have q11 := below_regrown w3 dq11 os11
            generalize grow (redrawn w3 dq11) os11 = w4 at q11 ⊢
            replace RA := Lib.hid (RA.out.below q11)
            replace RB := Lib.hid (RB.out.below q11)
            replace SA := Lib.hid (SA.out.below q11)
            replace SB := Lib.hid (SB.out.below q11)
            replace RY := Lib.hid (RY.out.below q11)
            replace KW := Lib.hid (thru KW.out q11)
            clear q11
            go_wp2_with fail
            obtain ⟨r1, r2⟩ := Mright.out
            obtain ⟨r3, r4⟩ := Mdown.out
            have T0 : Hid (-1152921504606846976 ≤ a0 + right ∧ a0 + right ≤ 1152921504606846976) := Lib.hid (by have := Ma0.out; omega)
            have T1 : Hid (-1152921504606846976 ≤ a1 + down ∧ a1 + down ≤ 1152921504606846976) := Lib.hid (by have := Ma1.out; omega)
            have T2 : Hid (-1152921504606846976 ≤ a2 + right ∧ a2 + right ≤ 1152921504606846976) := Lib.hid (by have := Ma2.out; omega)
            have T3 : Hid (-1152921504606846976 ≤ a3 + down ∧ a3 + down ≤ 1152921504606846976) := Lib.hid (by have := Ma3.out; omega)
            have T4 : Hid (-1152921504606846976 ≤ -right ∧ -right ≤ 1152921504606846976) := Lib.hid (by omega)
            have T5 : Hid (-1152921504606846976 ≤ -down ∧ -down ≤ 1152921504606846976) := Lib.hid (by omega)
            have n1 : IntKind.i64.wrap (-right) = -right := IntWalk.i64_in _ (by omega)
            have n2 : IntKind.i64.wrap (-down) = -down := IntWalk.i64_in _ (by omega)
            obtain ⟨ra0, ra1, ra2, ra3⟩ := RA.out.grown
            obtain ⟨rb0, rb1, rb2, rb3⟩ := RB.out.grown
            obtain ⟨sa0, sa1, sa2, sa3⟩ := SA.out.grown
            obtain ⟨sb0, sb1, sb2, sb3⟩ := SB.out.grown
            obtain ⟨ry0, ry1, ry2, ry3⟩ := RY.out.grown
            refine wp_region_quiet_below (by kernel_rfl) (by kernel_rfl) ?_
            repeat (quiet_step (first
              | (go_at_call 14; with_reducible exact Calls.regrown_of (shift_any _ _ _ _ _ _ (b60 Ma0.out) (b60 Ma1.out) (b60 Ma2.out) (b60 Ma3.out) (b60 Mright.out) (b60 Mdown.out) _))
              | (go_at_call 14; with_reducible exact Calls.regrown_of (shift_any _ _ _ _ _ _ (b60 Mb0.out) (b60 Mb1.out) (b60 Mb2.out) (b60 Mb3.out) (b60 Mright.out) (b60 Mdown.out) _))
              | (go_at_call 14; with_reducible exact Calls.regrown_of (shift_back _ _ _ _ _ _ T0.out T1.out T2.out T3.out T4.out T5.out _))
              | (go_at_call 10; with_reducible exact Calls.regrown_of (meet_is _ _ _ _ _ _ _ _ _ HM.out _))
              | (go_at_call 10; with_reducible exact Calls.regrown_of (meet_is _ _ _ _ _ _ _ _ _ HM4.out _))))
            refine wpQuiet_nil ?_
            intro _ hw'
            obtain ⟨⟨dq13, os13⟩, hw''⟩ := hw'
            subst hw''
            clear ra0 ra1 ra2 ra3 rb0 rb1 rb2 rb3 sa0 sa1 sa2 sa3 sb0 sb1 sb2 sb3 ry0 ry1 ry2 ry3
            have q13 := below_regrown w4 dq13 os13
            generalize grow (redrawn w4 dq13) os13 = w5 at q13 ⊢
            replace RA := Lib.hid (RA.out.below q13)
            replace RB := Lib.hid (RB.out.below q13)
            replace SA := Lib.hid (SA.out.below q13)
            replace SB := Lib.hid (SB.out.below q13)
            replace RY := Lib.hid (RY.out.below q13)
            replace KW := Lib.hid (thru KW.out q13)
            clear q13
            clear n1 n2 T0 T1 T2 T3 T4 T5 r1 r2 r3 r4
            have yy := RY.out
            unfold R4 at yy
            obtain ⟨y0, y1, y2, y3⟩ := yy
            obtain ⟨r0, r1⟩ := Mp.out
            obtain ⟨r2, r3⟩ := Mq.out
            obtain ⟨r4, r5⟩ := Ms.out
            obtain ⟨r6, r7⟩ := Mu.out
            go_wp2_with fail
            clear y0 y1 y2 y3
            generalize hW6 : World.alloc w5 _ = w6
            have k6 : Below w5.heap.size w5 w6 := by rw [← hW6]; exact ba1 _ _
            have rz : R4 w6 w5.heap.size (-p) (-q) (-s) (-u) := by rw [← hW6]; exact R4.of_block (T := 22) (by show (w5.heap.push _)[w5.heap.size]? = _; simp)
            clear hW6
            have RZ := Lib.hid rz
            clear rz
            replace RA := Lib.hid (RA.out.below k6)
            replace SA := Lib.hid (SA.out.below k6)
            replace RY := Lib.hid (RY.out.below k6)
            replace KW := Lib.hid (thru KW.out k6)
            clear k6
            have U0 : Hid (-1152921504606846976 ≤ a0 - u ∧ a0 - u ≤ 1152921504606846976) := Lib.hid (by have := Ma0.out; omega)
            have U1 : Hid (-1152921504606846976 ≤ a1 - p ∧ a1 - p ≤ 1152921504606846976) := Lib.hid (by have := Ma1.out; omega)
            have U2 : Hid (-1152921504606846976 ≤ a2 + q ∧ a2 + q ≤ 1152921504606846976) := Lib.hid (by have := Ma2.out; omega)
            have U3 : Hid (-1152921504606846976 ≤ a3 + s ∧ a3 + s ≤ 1152921504606846976) := Lib.hid (by have := Ma3.out; omega)
            have U4 : Hid (-1152921504606846976 ≤ -p ∧ -p ≤ 1152921504606846976) := Lib.hid (by omega)
            have U5 : Hid (-1152921504606846976 ≤ -q ∧ -q ≤ 1152921504606846976) := Lib.hid (by omega)
            have U6 : Hid (-1152921504606846976 ≤ -s ∧ -s ≤ 1152921504606846976) := Lib.hid (by omega)
            have U7 : Hid (-1152921504606846976 ≤ -u ∧ -u ≤ 1152921504606846976) := Lib.hid (by omega)
            clear r0 r1 r2 r3 r4 r5 r6 r7
            obtain ⟨ra0, ra1, ra2, ra3⟩ := RA.out.grown
            obtain ⟨sa0, sa1, sa2, sa3⟩ := SA.out.grown
            obtain ⟨ry0, ry1, ry2, ry3⟩ := RY.out.grown
            obtain ⟨rz0, rz1, rz2, rz3⟩ := RZ.out.grown
            refine wp_region_quiet_below (by kernel_rfl) (by kernel_rfl) ?_
            repeat (quiet_step (first
              | (go_at_call 16; with_reducible exact Calls.regrown_of (grow_any _ _ _ _ _ _ _ _ (b60 Ma0.out) (b60 Ma1.out) (b60 Ma2.out) (b60 Ma3.out) (b60 Mp.out) (b60 Mq.out) (b60 Ms.out) (b60 Mu.out) _))
              | (go_at_call 16; with_reducible exact Calls.regrown_of (grow_back _ _ _ _ _ _ _ _ U0.out U1.out U2.out U3.out U4.out U5.out U6.out U7.out _))
              | (go_at_call 12; with_reducible exact Calls.regrown_of (common_self _ _ _ _ _))))
            refine wpQuiet_nil ?_
            intro _ hw'
            obtain ⟨⟨dq16, os16⟩, hw''⟩ := hw'
            subst hw''
            clear ra0 ra1 ra2 ra3 sa0 sa1 sa2 sa3 ry0 ry1 ry2 ry3 rz0 rz1 rz2 rz3
            have q16 := below_regrown w6 dq16 os16
            generalize grow (redrawn w6 dq16) os16 = w7 at q16 ⊢
            replace RA := Lib.hid (RA.out.below q16)
            replace SA := Lib.hid (SA.out.below q16)
            replace RY := Lib.hid (RY.out.below q16)
            replace RZ := Lib.hid (RZ.out.below q16)
            replace KW := Lib.hid (thru KW.out q16)
            clear q16
            go_wp2_with fail
            go_ret
            exact ⟨rfl, KW.out⟩

end Go.Proofs.Ytcmfflmclammcaa
