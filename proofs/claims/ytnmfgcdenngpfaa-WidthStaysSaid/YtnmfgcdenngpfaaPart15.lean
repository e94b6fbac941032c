/- The law of what widths hang on: no heights, and no margins at the top or the bottom; a wider first box makes none narrower. -/
import Derived.Test.YtnmfgcdenngpfaaPart11
import Derived.Test.YtnmfgcdenngpfaaPart12
import Derived.Test.YtnmfgcdenngpfaaPart14
namespace Go.Proofs.Ytnmfgcdenngpfaa.Width
open Go.RowKit Go.Sort Go.Proofs.Ytnmfgcdenngpfaa.Record Go.Proofs.Ytnmfgcdenngpfaa.Script Go.Proofs.Ytnmfgcdenngpfaa.Tree Go.Proofs.Ytnmfgcdenngpfaa.More

theorem skip_at {ys : List Hold.Leave} {st : Nat} (hc : (List.range ys.length).all (fun i => ((ys.getD i (.val undef)).isSkip == (i == st))) = true) {i : Nat} {y : Hold.Leave} (h : ys[i]? = some y) : y = .skip ↔ i = st := by
  have hi := (List.getElem?_eq_some_iff.1 h).1
  have h1 := List.all_eq_true.1 hc i (List.mem_range.2 hi)
  have h2 : ys.getD i (.val undef) = y := by rw [List.getD_eq_getElem?_getD, h]; rfl
  rw [h2] at h1
  cases y with
  | skip => simpa [Hold.Leave.isSkip] using h1
  | val v => simpa [Hold.Leave.isSkip] using h1
  | some R => simpa [Hold.Leave.isSkip] using h1

/-- A number of a box in a list of one's own. -/
theorem mineB_cell {T : TypeId} {w : World} {B g n c k j : Nat} {bs : List Bx} (h : MineB T w B (some ⟨g, 0, none⟩) n c bs) {b : Bx} (hb : bs[k]? = some b) (hj : j < 14) {u : Value} (hu : (cellsOfB b)[j]? = some u) : w.cell? ⟨g, k * 14 + j, none⟩ = some u :=
  (MineE.at (E := encBx) h k b hb j hj).trans hu
theorem mineB_thaw {T : TypeId} {w : World} {B g n c : Nat} {bs : List Bx} (h : MineB T w B (some ⟨g, 0, none⟩) n c bs) (j : Nat) : w.frozen? ⟨g, j, none⟩ = false := MineE.frozen (E := encBx) h j

theorem grow_set (W : World) (g o : Nat) (v : Value) : W.grownBy (W.setCell ⟨g, o, none⟩ v) (some g) :=
  ⟨rfl, rfl, rfl, by simp [World.setCell], fun k _ hk => Below.heap_setCell _ _ _ k (fun e => hk (by rw [e]))⟩

section
variable {T : World → Addr → List Bx → Prop}

set_option maxRecDepth 100000 in
set_option maxHeartbeats 1000000 in
theorem stays_long (hO : WidthOk T) (A : Option Addr) (n c : Nat) (u u2 : Int) (w : World) (hl : 60 < n) :
    Calls Try.prog 6 #[.slice A n c, .int .u8 u, .int .u8 u2] w fun e w' => e = .returned (.bool true) ∧ Below w.heap.size w w' := by
  have hl1 : (60 : Int) < (n : Int) := by omega
  clear hl
  go_enter Try.func6, Try.ntmps6
  go_upto_region 2 with (first
    | (go_at_call 7; refine (dspeaks hO _).mono ?_; rintro e w1 ⟨rfl, k1⟩; have K1 := Lib.hid k1; clear k1))
  go_wp2_with (first
    | (go_at_call 7; refine (dspeaks hO _).mono ?_; rintro e w2 ⟨rfl, k2⟩; have K2 := Lib.hid (thru K1.out k2); clear k2))
  go_ret
  exact ⟨rfl, K2.out⟩

set_option maxRecDepth 100000 in
set_option maxHeartbeats 1000000 in
theorem stays_wrong (hO : WidthOk T) (A : Option Addr) (n c : Nat) (u u2 : Int) (bs : List Bx) (w : World) (hn : n = bs.length) (hlen : n ≤ 60) (hx : Boxes w w.heap.size A bs) (a e : Int) (hc : chk bs = (a, e)) (he : e ≠ 0) :
    Calls Try.prog 6 #[.slice A n c, .int .u8 u, .int .u8 u2] w fun e w' => e = .returned (.bool true) ∧ Below w.heap.size w w' := by
  have HRF := Lib.hid (fun w1 (k : Below w.heap.size w w1) => refchk_any A n c bs a e w1 hn (by omega) (hx.thru k) hc)
  have hl : ¬ (60 : Int) < (n : Int) := by omega
  have he' : (e != 0) = true := by simp [he]
  clear hx hn hc he
  go_enter Try.func6, Try.ntmps6
  go_wp2_with (first
    | (go_at_call 7; refine (dspeaks hO _).mono ?_; rintro e w1 ⟨rfl, k1⟩; have K1 := Lib.hid k1; clear k1)
    | (go_at_call 17; refine (HRF.out _ K1.out).mono ?_; rintro e w2 ⟨rfl, k2⟩; have K2 := Lib.hid (thru K1.out k2); clear k2))
  go_ret
  exact ⟨rfl, K2.out⟩

set_option maxRecDepth 100000 in
set_option maxHeartbeats 1000000 in
theorem stays_wide (hO : WidthOk T) (A : Option Addr) (n c : Nat) (u u2 : Int) (bs : List Bx) (w : World) (hn : n = bs.length) (hlen : n ≤ 60) (h0 : 0 < n) (hx : Boxes w w.heap.size A bs) (hc : chk bs = (-1, 0)) (hw : 134217728 < (bs.getD 0 noB).w) :
    Calls Try.prog 6 #[.slice A n c, .int .u8 u, .int .u8 u2] w fun e w' => e = .returned (.bool true) ∧ Below w.heap.size w w' := by
  obtain ⟨ad, rfl, hab, -⟩ := hx 0 (by omega)
  obtain ⟨y0, hy0⟩ : ∃ y0, bs.getD 0 noB = y0 := ⟨_, rfl⟩
  have HA0 : Hid (∀ w', Below w.heap.size w w' → AtP w' ad y0) := Lib.hid (fun w' k => by
    have := boxes_at hx (by omega) hy0 w' k
    rwa [show ad.add (0 * 14) = ad by simp [Addr.add]] at this)
  have HRF := Lib.hid (fun w1 (k : Below w.heap.size w w1) => refchk_any (some ad) n c bs (-1) 0 w1 hn (by omega) (hx.thru k) hc)
  have hl : ¬ (60 : Int) < (n : Int) := by omega
  have hn0 : (0 : Int) < (n : Int) := by omega
  rw [hy0] at hw
  clear hx hn hc hy0
  go_enter Try.func6, Try.ntmps6
  go_wp2_with (first
    | (go_at_call 7; refine (dspeaks hO _).mono ?_; rintro e w1 ⟨rfl, k1⟩; have K1 := Lib.hid k1; clear k1)
    | (go_at_call 17; refine (HRF.out _ K1.out).mono ?_; rintro e w2 ⟨rfl, k2⟩; have K2 := Lib.hid (thru K1.out k2); have c4 := atp4 (HA0.out w2 K2.out); clear k2))
  go_ret
  exact ⟨rfl, K2.out⟩

set_option maxRecDepth 100000 in
set_option maxHeartbeats 16000000 in
theorem stays_yes (hT : TreeOk T) (hO : WidthOk T) (A : Option Addr) (n c : Nat) (u u2 : Int) (hu : 0 ≤ u ∧ u ≤ 255) (hu2 : 0 ≤ u2 ∧ u2 ≤ 255) (bs : List Bx) (w : World) (hn : n = bs.length) (hlen : n ≤ 60) (h0 : 0 < n) (hx : Boxes w w.heap.size A bs) (hb : ∀ b ∈ bs, OkB b) (hc : chk bs = (-1, 0)) (hs : Shape (dOf bs) bs.length) (hf : Fine bs n) (hw : (bs.getD 0 noB).w ≤ 134217728) :
    Calls Try.prog 6 #[.slice A n c, .int .u8 u, .int .u8 u2] w fun e w' => e = .returned (.bool true) ∧ Below w.heap.size w w' := by
  obtain ⟨ad, rfl, hab, -⟩ := hx 0 (by omega)
  obtain ⟨y0, hy0⟩ : ∃ y0, bs.getD 0 noB = y0 := ⟨_, rfl⟩
  have HA0 : Hid (∀ w', Below w.heap.size w w' → AtP w' ad y0) := Lib.hid (fun w' k => by
    have := boxes_at hx (by omega) hy0 w' k
    rwa [show ad.add (0 * 14) = ad by simp [Addr.add]] at this)
  have HRF := Lib.hid (fun w1 (k : Below w.heap.size w w1) => refchk_any (some ad) n c bs (-1) 0 w1 hn (by omega) (hx.thru k) hc)
  have hf' : Fine bs bs.length := by rw [← hn]; exact hf
  have hr := fine_root hf h0
  rw [hy0] at hw hr
  obtain ⟨v2, hv2⟩ : ∃ v2, y0.w + u2 = v2 := ⟨_, rfl⟩
  have hvb : 0 ≤ v2 ∧ v2 ≤ 268435456 := by omega
  have hwv : IntKind.i64.wrap (y0.w + u2) = v2 := by rw [IntWalk.i64_in _ (by omega)]; exact hv2
  obtain ⟨p1, p2, p3⟩ := partH_all hu (by omega) hf'
  obtain ⟨q1, q2, q3, q4⟩ := wideL_all (v := v2) hvb (by omega) hf'
  have hmlen : n = (partH bs u bs.length).length := by rw [partH_len]; exact hn
  have hwlen : n = (wideL bs v2).length := by rw [wideL_len]; exact hn
  have p4 : Shape (dOf (partH bs u bs.length)) (partH bs u bs.length).length := by rw [partH_len]; exact p3.shape (by omega)
  have q5 : Shape (dOf (wideL bs v2)) (wideL bs v2).length := by rw [wideL_len]; exact q4.shape (by omega)
  have HSP := Lib.hid (fun i (hi : i < bs.length) => sps_alike p1 p2 hi)
  have HLW := Lib.hid (fun i (hi : i < bs.length) => left_alike q1 (i + 1) i (by omega) hi)
  have HWM := Lib.hid (fun i (hi : i < bs.length) => wid_more hs q1 (by rw [q3, hy0]; omega) q2 (i + 1) i (by omega) hi)
  have HQ4 := Lib.hid q4
  have HQ5 := Lib.hid q5
  have HG1 := Lib.hid (fun w1 (k : Below w.heap.size w w1) => begin_some hT (some ad) n c bs w1 hn (by omega) h0 (hx.thru k) hb hf)
  have HG2 := Lib.hid (fun w1 A c (hx : Boxes w1 w1.heap.size A (partH bs u bs.length)) => begin_some hT A n c (partH bs u bs.length) w1 hmlen (by omega) h0 hx (partH_ok hb hu _) (by rw [hn]; exact p3))
  have HG3 := Lib.hid (fun w1 A c (hx : Boxes w1 w1.heap.size A (wideL bs v2)) => begin_some hT A n c (wideL bs v2) w1 hwlen (by omega) h0 hx (wideL_ok hb hvb (by omega)) (by rw [hn]; exact q4))
  have HF1 := Lib.hid (fun w3 p (h : T w3 p bs) => hO.frames w3 p bs h (by omega) hs hf')
  have HF2 := Lib.hid (fun w3 p (h : T w3 p (partH bs u bs.length)) => hO.frames w3 p (partH bs u bs.length) h (by omega) p4 (by rw [partH_len]; exact p3))
  have HF3 := Lib.hid (fun w3 p (h : T w3 p (wideL bs v2)) => hO.frames w3 p (wideL bs v2) h (by omega) q5 (by rw [wideL_len]; exact q4))
  rw [← hn] at HF1
  rw [← hmlen] at HF2
  rw [← hwlen] at HF3
  have HX := Lib.hid hx
  have HN := Lib.hid hn
  have HF := Lib.hid hf
  have HS := Lib.hid hs
  have HY0 := Lib.hid hy0
  have HML := Lib.hid hmlen
  have HWL := Lib.hid hwlen
  have HSRC : Hid (∀ w', Below w.heap.size w w' → SrcB w' (some ad) n c bs) := Lib.hid (fun w' k => by
    have := src_piece (c := c) (HX.out.thru k) (i := 0) (m := n) (by omega)
    rw [show ad.add (0 * 14) = ad by simp [Addr.add], List.drop_zero, List.take_of_length_le (by omega)] at this
    exact this)
  have hl : ¬ (60 : Int) < (n : Int) := by omega
  have hn0 : (0 : Int) < (n : Int) := by omega
  have hw0 : ¬ 134217728 < y0.w := by omega
  have hcu : IntKind.i64.wrap u = u := IntWalk.i64_in _ (by omega)
  have hcu2 : IntKind.i64.wrap u2 = u2 := IntWalk.i64_in _ (by omega)
  have hneg : IntKind.i64.wrap (-u) = -u := IntWalk.i64_in _ (by omega)
  clear hx hn hc hy0 hb hs hf hf' hr hw hv2 hvb p1 p2 p3 q1 q2 q3 q4 hmlen hwlen p4 q5
  go_enter Try.func6, Try.ntmps6
  go_upto_region 6 with (first
    | (go_at_call 7; refine (dspeaks hO _).mono ?_; rintro e w1 ⟨rfl, k1⟩; have K1 := Lib.hid k1; clear k1)
    | (go_at_call 17; refine (HRF.out _ K1.out).mono ?_; rintro e w2 ⟨rfl, k2⟩; have K2 := Lib.hid (thru K1.out k2); have c4 := atp4 (HA0.out w2 K2.out); clear k2))
  go_upto_region 7 with (first
    | (at_builtin; refine wpList_append_boxes infoRef _ rfl (.tmp 41) (.tmp 42) rfl w2.heap.size (some ⟨w2.heap.size, 0, none⟩) 0 0 [] rfl (emptyB_mine 24 w2 w2.heap.size (Nat.le_refl _)) (some ad) n c bs rfl (HSRC.out _ (thru K2.out (ba1 w2 _))) (by omega) (ba1 w2 _).size ?_; intro Am cm W6 h6; have K6 := Lib.hid (h6.below (emptyB_mine 24 w2 w2.heap.size (Nat.le_refl _)) (ba1 w2 _) (Nat.le_refl _) (ba1 w2 _).size); have HM6 : Hid (MineB 24 W6 w2.heap.size Am n cm bs) := Lib.hid (by simpa using h6.1); clear h6))
  obtain ⟨gm, rfl, hgm1, hgm2⟩ := mineB_block HM6.out h0
  go_upto_region 8 with (first
    | (at_builtin; refine wpList_append_boxes infoRef _ rfl (.tmp 44) (.tmp 45) rfl W6.heap.size (some ⟨W6.heap.size, 0, none⟩) 0 0 [] rfl (emptyB_mine 24 W6 W6.heap.size (Nat.le_refl _)) (some ad) n c bs rfl (HSRC.out _ (thru K2.out (thru K6.out (ba1 W6 _)))) (by omega) (ba1 W6 _).size ?_; intro Aw cw W7 h7; have K7 := Lib.hid (h7.below (emptyB_mine 24 W6 W6.heap.size (Nat.le_refl _)) (ba1 W6 _) (Nat.le_refl _) (ba1 W6 _).size); have HW7 : Hid (MineB 24 W7 W6.heap.size Aw n cw bs) := Lib.hid (by simpa using h7.1); clear h7))
  obtain ⟨gw, rfl, hgw1, hgw2⟩ := mineB_block HW7.out h0
  have HM7 := Lib.hid (HM6.out.below K7.out)
  have hne : gm ≠ gw := by omega
  have HZ := Lib.hid (show MineB 24 W7 w2.heap.size (some ⟨gm, 0, none⟩) n cm (partH bs u 0) ∧ MineB 24 W7 W6.heap.size (some ⟨gw, 0, none⟩) n cw bs ∧ Below w2.heap.size w2 W7 from ⟨by rw [partH_zero]; exact HM7.out, HW7.out, thru K6.out K7.out⟩)
  clear HM6 HM7 HW7 hgw2 hgm2
  go_wp2_with fail
  go_loopw [49] (fun t wr => ∃ k : Nat, k ≤ n ∧ t = .int .i64 (k : Int) ∧ Hid (MineB 24 wr w2.heap.size (some ⟨gm, 0, none⟩) n cm (partH bs u k) ∧ MineB 24 wr W6.heap.size (some ⟨gw, 0, none⟩) n cw bs ∧ Below w2.heap.size w2 wr)) (fun t _ => n - (intOf t).toNat)
  case atStart => exact ⟨0, Nat.zero_le _, rfl, HZ⟩
  case round =>
    clear HZ K7 c4
    obtain ⟨k, hk, rfl, H⟩ := hrel
    by_cases hlt : k < n
    · have hki : (k : Int) < (n : Int) := by omega
      have hk0 : ¬ (k : Int) < 0 := by omega
      have hkl : k < bs.length := by rw [← HN.out]; exact hlt
      obtain ⟨y, hy⟩ : ∃ y, bs.getD k noB = y := ⟨_, rfl⟩
      have hyk : (partH bs u k)[k]? = some y := by rw [partH_at hkl, if_neg (by omega), hy]
      have e5 := mineB_cell H.out.1 hyk (j := 5) (by decide) rfl
      have t5 := mineB_thaw H.out.1 (k * 14 + 5)
      have hst := partH_step (v := u) hkl
      rw [hy] at hst
      have HST := Lib.hid hst
      have HYK := Lib.hid hyk
      clear hst hyk hy hkl
      go_upto_region 12 with fail
      have m1 := mineB_turn H.out.1 y { y with h := u } HYK.out (j := 5) (by decide) (.int .i64 u) rfl
      have x1 := MineB.kept H.out.2.1 (grow_set wr gm (k * 14 + 5) (.int .i64 u)) (fun g e e2 => by have e3 : gw = g := Option.some.inj e; injection e2 with e2; omega)
      have b1 := H.out.2.2.setCell (p := ⟨gm, k * 14 + 5, none⟩) hgm1 (.int .i64 u)
      generalize World.setCell wr _ _ = W1 at m1 x1 b1 ⊢
      have hs1 : ((partH bs u k).set k { y with h := u })[k]? = some { y with h := u } := List.getElem?_set_self (by rw [partH_len, ← HN.out]; exact hlt)
      have e1 := mineB_cell m1 hs1 (j := 1) (by decide) rfl
      have M1 := Lib.hid m1
      have X1 := Lib.hid x1
      have B1 := Lib.hid b1
      have HS1 := Lib.hid hs1
      clear m1 x1 b1 hs1 e5 t5 H
      dsimp only at e1
      by_cases hc : 0 < k ∧ y.k ≠ 5
      · have hkp : (0 : Int) < (k : Int) := by omega
        have hk5 : (y.k != 5) = true := by rw [bne_iff_ne]; exact hc.2
        have HST2 : Hid (partH bs u (k + 1) = (partH bs u k).set k { y with h := u, m0 := u, m2 := -u }) := Lib.hid (by rw [HST.out]; unfold heiB; rw [if_pos hc])
        have e6 := mineB_cell M1.out HS1.out (j := 6) (by decide) rfl
        have t6 := mineB_thaw M1.out (k * 14 + 6)
        have hgm3 : gm < W1.heap.size := block_lt_of_cell e6
        have e8 := mineB_cell M1.out HS1.out (j := 8) (by decide) rfl
        have t8 := mineB_thaw M1.out (k * 14 + 8)
        dsimp only at e6 e8
        clear HST hc
        go_upto_region 13 with fail
        clear e1
        refine HoldS.wp_region_store [.val (.slice (some ⟨gm, 0, none⟩) n cm), .val (.int .i64 (k : Int)), .val (.slice (some ⟨gm, 0, none⟩) n cm), .val (.int .i64 (k : Int)), .val (.int .u8 u), .val (.int .i64 u), .val (.int .u8 u), .val (.int .i64 u), .val (.int .i64 (-u)), .val (.pointer (some ⟨gm, k * 14, none⟩)), .val (.pointer (some ⟨gm, k * 14 + 6, none⟩)), .val (.pointer (some ⟨gm, k * 14 + 6, none⟩)), .skip, .val (.pointer (some ⟨gm, k * 14, none⟩)), .val (.pointer (some ⟨gm, k * 14 + 6, none⟩)), .val (.pointer (some ⟨gm, k * 14 + 8, none⟩))] 12 (fun w' => w'.setCell ⟨gm, k * 14 + 6, none⟩ (.int .i64 u)) (by kernel_rfl) (by kernel_rfl) (fun i y h => ?_) ?_ ?_
        · exact skip_at (by rfl) h
        · simp only [Hold.fill, Hold.Leave.value]
          refine ⟨?_, ?_, ?_, ?_, ?_, ?_, ?_, ?_, ?_, ?_, ?_, ?_, ?_, ?_, ?_, ?_, trivial⟩
          · intro w'
            go_simp <;> rfl
          · intro w'
            go_simp <;> rfl
          · intro w'
            go_simp <;> rfl
          · intro w'
            go_simp <;> rfl
          · intro w'
            go_simp <;> rfl
          · intro w'
            go_simp <;> rfl
          · intro w'
            go_simp <;> rfl
          · intro w'
            go_simp <;> rfl
          · intro w'
            go_simp <;> rfl
          · intro w'
            go_simp <;> rfl
          · intro w'
            go_simp <;> rfl
          · intro w'
            go_simp <;> rfl
          · intro w' hw
            have q0 := (hw.cell (p := ⟨gm, k * 14 + 6, none⟩) hgm3).trans e6
            have q1 := (hw.frozen (p := ⟨gm, k * 14 + 6, none⟩) hgm3).trans t6
            go_simp <;> rfl
          · intro w'
            go_simp <;> rfl
          · intro w'
            go_simp <;> rfl
          · intro w'
            go_simp <;> rfl
        intro w2' k2'
        simp only [Hold.fill, Hold.Leave.value, List.length_cons, List.length_nil, List.drop_succ_cons, List.drop_zero]
        have m2 := mineB_turn (M1.out.below k2') _ { y with h := u, m0 := u } HS1.out (j := 6) (by decide) (.int .i64 u) rfl
        have x2 := MineB.kept (X1.out.below k2') (grow_set w2' gm (k * 14 + 6) (.int .i64 u)) (fun g e e2 => by have e3 : gw = g := Option.some.inj e; injection e2 with e2; omega)
        have b2 := (B1.out.trans (k2'.mono B1.out.size)).setCell (p := ⟨gm, k * 14 + 6, none⟩) hgm1 (.int .i64 u)
        rw [List.set_set] at m2
        generalize World.setCell w2' _ _ = W2 at m2 x2 b2 ⊢
        have hs2 : ((partH bs u k).set k { y with h := u, m0 := u })[k]? = some { y with h := u, m0 := u } := List.getElem?_set_self (by rw [partH_len, ← HN.out]; exact hlt)
        have z8 := mineB_cell m2 hs2 (j := 8) (by decide) rfl
        have s8 := mineB_thaw m2 (k * 14 + 8)
        have m3 := mineB_turn m2 _ { y with h := u, m0 := u, m2 := -u } hs2 (j := 8) (by decide) (.int .i64 (-u)) rfl
        have x3 := MineB.kept x2 (grow_set W2 gm (k * 14 + 8) (.int .i64 (-u))) (fun g e e2 => by have e3 : gw = g := Option.some.inj e; injection e2 with e2; omega)
        have b3 := b2.setCell (p := ⟨gm, k * 14 + 8, none⟩) hgm1 (.int .i64 (-u))
        rw [List.set_set, ← HST2.out] at m3
        have HR := Lib.hid (show _ ∧ _ ∧ _ from ⟨m3, x3, b3⟩)
        clear m2 x2 b2 hs2 m3 x3 b3 e6 t6 e8 t8
        dsimp only at z8
        go_wp2_with fail
        go_roundw
        case rel => exact ⟨k + 1, by omega, by go_num, HR⟩
        case measure => simp [intOf]; omega
      · have HST2 : Hid (partH bs u (k + 1) = (partH bs u k).set k { y with h := u }) := Lib.hid (by rw [HST.out]; unfold heiB; rw [if_neg hc])
        have HR := Lib.hid (show _ ∧ _ ∧ _ from ⟨by rw [← HST2.out] at M1; exact M1.out, X1.out, B1.out⟩)
        clear HST HST2
        rcases Nat.eq_zero_or_pos k with hz | hz
        · have hkp : ¬ (0 : Int) < (k : Int) := by omega
          clear hz hc e1
          go_wp2_with fail
          go_roundw
          case rel => exact ⟨k + 1, by omega, by go_num, HR⟩
          case measure => simp [intOf]; omega
        · have hkp : (0 : Int) < (k : Int) := by omega
          have hk5 : (y.k != 5) = false := by
            by_cases h5 : y.k = 5
            · simp [h5]
            · exact absurd ⟨hz, h5⟩ hc
          clear hz hc
          go_wp2_with fail
          go_roundw
          case rel => exact ⟨k + 1, by omega, by go_num, HR⟩
          case measure => simp [intOf]; omega
    · obtain rfl : n = k := by omega
      have HP : Hid (MineB 24 wr w2.heap.size (some ⟨gm, 0, none⟩) n cm (partH bs u bs.length)) := Lib.hid (by have := H.out.1; rwa [show partH bs u n = partH bs u bs.length by rw [← HN.out]] at this)
      have hb0 : bs[0]? = some y0 := by
        rw [← HY0.out, List.getD_eq_getElem?_getD, List.getElem?_eq_getElem (by rw [← HN.out]; exact h0)]; rfl
      have e4 : wr.cell? ⟨gw, 4, none⟩ = some (.int .i64 y0.w) := by simpa using mineB_cell H.out.2.1 hb0 (j := 4) (by decide) rfl
      have t4 : wr.frozen? ⟨gw, 4, none⟩ = false := mineB_thaw H.out.2.1 4
      go_upto_region 16 with fail
      have x1 : MineB 24 (wr.setCell ⟨gw, 4, none⟩ (.int .i64 v2)) W6.heap.size (some ⟨gw, 0, none⟩) n cw (wideL bs v2) := by
        have := mineB_turn H.out.2.1 y0 { y0 with w := v2 } hb0 (j := 4) (by decide) (.int .i64 v2) rfl
        unfold wideL
        rw [HY0.out]
        simpa using this
      have m1 := MineB.kept HP.out (grow_set wr gw (4) (.int .i64 v2)) (fun g e e2 => by have e3 : gm = g := Option.some.inj e; injection e2 with e2; omega)
      have b1 := H.out.2.2.setCell (p := ⟨gw, 4, none⟩) (show w2.heap.size ≤ gw by have := K6.out.size; omega) (.int .i64 v2)
      generalize World.setCell wr _ _ = W1 at m1 x1 b1 ⊢
      have M1 := Lib.hid m1
      have X1 := Lib.hid x1
      have B1 := Lib.hid (thru K2.out b1)
      clear m1 x1 b1 e4 t4 hb0 HP H
      go_upto_region 17 with (first
        | (go_at_call 18; with_reducible refine (HG1.out _ B1.out).mono ?_; rintro e w3 ⟨⟨p1, rfl, ht⟩, k3⟩; have HT1 := Lib.hid ht; have K3 := Lib.hid k3; clear ht k3)
        | (go_at_call 18; with_reducible refine (HG2.out _ _ _ (M1.out.boxes.thru K3.out)).mono ?_; rintro e w4 ⟨⟨p2, rfl, ht⟩, k4⟩; have HT2 := Lib.hid ht; have L4 := Lib.hid k4; have K4 := Lib.hid (thru K3.out k4); clear ht k4)
        | (go_at_call 18; with_reducible refine (HG3.out _ _ _ (X1.out.boxes.thru K4.out)).mono ?_; rintro e w5 ⟨⟨p3, rfl, ht⟩, k5⟩; have HT3 := Lib.hid ht; have L5 := Lib.hid k5; have K5 := Lib.hid (thru K4.out k5); clear ht k5))
      have HU1 := Lib.hid (hT.keep _ _ _ _ HT1.out (thru L4.out L5.out))
      have HU2 := Lib.hid (hT.keep _ _ _ _ HT2.out L5.out)
      clear HT1 HT2 L4 L5 K4 K3 HG1 HG2 HG3
      go_upto_region 20 with (first
        | (go_at_call 19; with_reducible refine (HF1.out _ p1 HU1.out).mono ?_; rintro e w6 ⟨⟨Aa, ca, rfl, h6⟩, k6⟩; have MA := Lib.hid h6; have L6 := Lib.hid k6; clear h6 k6)
        | (go_at_call 19; with_reducible refine (HF2.out _ p2 (hT.keep _ _ _ _ HU2.out L6.out)).mono ?_; rintro e w7 ⟨⟨Ab, cb, rfl, h7⟩, k7⟩; have MB := Lib.hid h7; have L7 := Lib.hid k7; have L67 := Lib.hid (thru L6.out k7); clear h7 k7)
        | (go_at_call 19; with_reducible refine (HF3.out _ p3 (hT.keep _ _ _ _ HT3.out L67.out)).mono ?_; rintro e w8 ⟨⟨Ac, cc, rfl, h8⟩, k8⟩; have MC := Lib.hid h8; have L8 := Lib.hid k8; clear h8 k8))
      obtain ⟨ga, rfl, ha1, ha2, -, -⟩ := MA.out.form h0
      obtain ⟨gb, rfl, hb1, hb2, -, -⟩ := MB.out.form h0
      obtain ⟨gc, rfl, hc1, hc2, -, -⟩ := MC.out.form h0
      have KE := Lib.hid (thru B1.out (thru K5.out (thru L67.out L8.out)))
      clear HU1 HU2 HT3 HF1 HF2 HF3
      go_wp2_with fail
      go_loopw [136] (fun t wx => ∃ k : Nat, k ≤ n ∧ t = .int .i64 (k : Int) ∧ Hid (Below w8.heap.size w8 wx)) (fun t _ => n - (intOf t).toNat)
      case atStart => exact ⟨0, Nat.zero_le _, rfl, Lib.hid (Below.refl _ _)⟩
      case round =>
        obtain ⟨k, hk, rfl, H⟩ := hrel
        by_cases hlt : k < n
        · have hki : (k : Int) < (n : Int) := by omega
          have hk0 : ¬ (k : Int) < 0 := by omega
          have hkl : k < bs.length := by rw [← HN.out]; exact hlt
          have hwb := wide_bound HS.out (by rw [← HN.out]; exact HF.out) (k + 1) k (by omega) hkl
          have hlb := left_bound HS.out (by rw [← HN.out]; exact HF.out) (k + 1) k (by omega) hkl
          have hwb3 := wide_bound HQ5.out (by rw [wideL_len]; exact HQ4.out) (k + 1) k (by omega) (by rw [← HWL.out]; exact hlt)
          obtain ⟨lf, hlf⟩ : ∃ lf, lefD bs k = lf := ⟨_, rfl⟩
          obtain ⟨d, hd⟩ : ∃ d, widD bs k = d := ⟨_, rfl⟩
          obtain ⟨d3, hd3⟩ : ∃ d3, widD (wideL bs v2) k = d3 := ⟨_, rfl⟩
          have hmw := HWM.out k hkl
          rw [hd, hd3] at hmw
          have hsp := HSP.out k hkl
          rw [hlf, hd] at hsp
          have hlw := HLW.out k hkl
          rw [hlf] at hlw
          obtain ⟨z, hz⟩ : ∃ z, lf + d = z := ⟨_, rfl⟩
          obtain ⟨z3, hz3⟩ : ∃ z3, lf + d3 = z3 := ⟨_, rfl⟩
          rw [hlf] at hlb
          rw [hd] at hwb
          rw [hd3] at hwb3
          have SA0 := Lib.hid (fun w' (j : Below wr.heap.size wr w') => span_f MA.out ha2 hkl hlf w' (thru (thru L7.out L8.out) (thru H.out j)))
          have SA1 := Lib.hid (fun w' (j : Below wr.heap.size wr w') => span_t MA.out ha2 hkl hlf hd hz w' (thru (thru L7.out L8.out) (thru H.out j)))
          have SB0 := Lib.hid (fun w' (j : Below wr.heap.size wr w') => span_f MB.out hb2 (by rw [← HML.out]; exact hlt) hsp.1 w' (thru L8.out (thru H.out j)))
          have SB1 := Lib.hid (fun w' (j : Below wr.heap.size wr w') => span_t MB.out hb2 (by rw [← HML.out]; exact hlt) hsp.1 hsp.2 hz w' (thru L8.out (thru H.out j)))
          have SC0 := Lib.hid (fun w' (j : Below wr.heap.size wr w') => span_f MC.out hc2 (by rw [← HWL.out]; exact hlt) hlw w' (thru H.out j))
          have SC1 := Lib.hid (fun w' (j : Below wr.heap.size wr w') => span_t MC.out hc2 (by rw [← HWL.out]; exact hlt) hlw hd3 hz3 w' (thru H.out j))
          have HL1 := Lib.hid (fun w => slen_is lf z d (by omega) (by omega) (by omega) w)
          have HL3 := Lib.hid (fun w => slen_is lf z3 d3 (by omega) (by omega) (by omega) w)
          have hdd : ¬ d3 < d := by omega
          clear hlf hd hd3 hz hz3 hwb hlb hwb3 hsp hlw hmw hkl
          go_upto_region 25 with fail
          refine Hold.wp_region_hold [.val (.slice (some ⟨ga, 0, none⟩) n ca), .val (.int .i64 (k : Int)), .val (.pointer (some ⟨ga, k * 2, none⟩)), .val (.agg #[.int .i64 lf, .int .i64 z]), .val (.slice (some ⟨gb, 0, none⟩) n cb), .val (.int .i64 (k : Int)), .val (.pointer (some ⟨gb, k * 2, none⟩)), .val (.agg #[.int .i64 lf, .int .i64 z]), .val (.bool false), .val (.bool false), .val (.slice (some ⟨gc, 0, none⟩) n cc), .val (.int .i64 (k : Int)), .val (.pointer (some ⟨gc, k * 2, none⟩)), .val (.agg #[.int .i64 lf, .int .i64 z3]), .val (.int .i64 d3), .val (.slice (some ⟨ga, 0, none⟩) n ca), .val (.int .i64 (k : Int)), .val (.pointer (some ⟨ga, k * 2, none⟩)), .val (.agg #[.int .i64 lf, .int .i64 z]), .val (.int .i64 d), .val (.bool false), .val (.bool false), .val (.bool false), .val (.slice (some ⟨gc, 0, none⟩) n cc), .val (.int .i64 (k : Int)), .val (.pointer (some ⟨gc, k * 2, none⟩)), .val (.pointer (some ⟨gc, k * 2, none⟩)), .val (.int .i64 lf), .val (.slice (some ⟨ga, 0, none⟩) n ca), .val (.int .i64 (k : Int)), .val (.pointer (some ⟨ga, k * 2, none⟩)), .val (.pointer (some ⟨ga, k * 2, none⟩)), .val (.int .i64 lf), .val (.bool false)] (by kernel_rfl) (by kernel_rfl) (by kernel_rfl) ?_ ?_
          · simp only [Hold.fill, Hold.Leave.value]
            refine ⟨?_, ?_, ?_, ?_, ?_, ?_, ?_, ?_, ?_, ?_, ?_, ?_, ?_, ?_, ?_, ?_, ?_, ?_, ?_, ?_, ?_, ?_, ?_, ?_, ?_, ?_, ?_, ?_, ?_, ?_, ?_, ?_, ?_, ?_, trivial⟩
            · intro gg w' hw hk
              go_simp
              exact ⟨rfl, rfl⟩
            · intro gg w' hw hk
              go_simp
              exact ⟨rfl, rfl⟩
            · intro gg w' hw hk
              go_simp
              exact ⟨rfl, rfl⟩
            · intro gg w' hw hk
              have q0 := SA0.out w' hw
              have q1 := SA1.out w' hw
              go_simp
              exact ⟨rfl, rfl⟩
            · intro gg w' hw hk
              go_simp
              exact ⟨rfl, rfl⟩
            · intro gg w' hw hk
              go_simp
              exact ⟨rfl, rfl⟩
            · intro gg w' hw hk
              go_simp
              exact ⟨rfl, rfl⟩
            · intro gg w' hw hk
              have q0 := SB0.out w' hw
              have q1 := SB1.out w' hw
              go_simp
              exact ⟨rfl, rfl⟩
            · intro gg w' hw hk
              have EQ := eqSp_same lf z w'
              go_simp
              exact ⟨rfl, rfl⟩
            · intro gg w' hw hk
              go_simp
              exact ⟨rfl, rfl⟩
            · intro gg w' hw hk
              go_simp
              exact ⟨rfl, rfl⟩
            · intro gg w' hw hk
              go_simp
              exact ⟨rfl, rfl⟩
            · intro gg w' hw hk
              go_simp
              exact ⟨rfl, rfl⟩
            · intro gg w' hw hk
              have q0 := SC0.out w' hw
              have q1 := SC1.out w' hw
              go_simp
              exact ⟨rfl, rfl⟩
            · intro gg w' hw hk
              go_simp
              exact Hold.stays_call (HL3.out w')
            · intro gg w' hw hk
              go_simp
              exact ⟨rfl, rfl⟩
            · intro gg w' hw hk
              go_simp
              exact ⟨rfl, rfl⟩
            · intro gg w' hw hk
              go_simp
              exact ⟨rfl, rfl⟩
            · intro gg w' hw hk
              have q0 := SA0.out w' hw
              have q1 := SA1.out w' hw
              go_simp
              exact ⟨rfl, rfl⟩
            · intro gg w' hw hk
              go_simp
              exact Hold.stays_call (HL1.out w')
            · intro gg w' hw hk
              go_simp
              exact ⟨rfl, rfl⟩
            · intro gg w' hw hk
              go_simp
              exact ⟨rfl, rfl⟩
            · intro gg w' hw hk
              go_simp
              exact ⟨rfl, rfl⟩
            · intro gg w' hw hk
              go_simp
              exact ⟨rfl, rfl⟩
            · intro gg w' hw hk
              go_simp
              exact ⟨rfl, rfl⟩
            · intro gg w' hw hk
              go_simp
              exact ⟨rfl, rfl⟩
            · intro gg w' hw hk
              go_simp
              exact ⟨rfl, rfl⟩
            · intro gg w' hw hk
              have q0 := SC0.out w' hw
              go_simp
              exact ⟨rfl, rfl⟩
            · intro gg w' hw hk
              go_simp
              exact ⟨rfl, rfl⟩
            · intro gg w' hw hk
              go_simp
              exact ⟨rfl, rfl⟩
            · intro gg w' hw hk
              go_simp
              exact ⟨rfl, rfl⟩
            · intro gg w' hw hk
              go_simp
              exact ⟨rfl, rfl⟩
            · intro gg w' hw hk
              have q0 := SA0.out w' hw
              go_simp
              exact ⟨rfl, rfl⟩
            · intro gg w' hw hk
              go_simp
              exact ⟨rfl, rfl⟩
          intro gg w2 k2 hgg
          clear hgg
          simp only [Hold.fill, Hold.Leave.value, List.length_cons, List.length_nil, List.drop_succ_cons, List.drop_zero]
          have HR := Lib.hid (thru H.out k2)
          clear k2
          go_wp2_with fail
          go_roundw
          case rel => exact ⟨k + 1, by omega, by go_num, HR⟩
          case measure => simp [intOf]; omega
        · obtain rfl : k = n := by omega
          go_wp2_with fail
          go_ret
          exact ⟨rfl, thru KE.out H.out⟩

theorem stays_any (hT : TreeOk T) (hO : WidthOk T) (A : Option Addr) (n c : Nat) (bs : List Bx) (u u2 : Int) (hu : 0 ≤ u ∧ u ≤ 255) (hu2 : 0 ≤ u2 ∧ u2 ≤ 255) (w : World) (hn : n = bs.length) (hx : Boxes w w.heap.size A bs) (hb : ∀ b ∈ bs, OkB b) :
    Calls Try.prog 6 #[.slice A n c, .int .u8 u, .int .u8 u2] w fun e w' => e = .returned (.bool true) ∧ Below w.heap.size w w' := by
  by_cases hl : n ≤ 60
  · rcases list_or bs n hn with h | ⟨h, a, e, hc, he⟩ | ⟨h, h0, hc, hs, hf⟩
    · omega
    · exact stays_wrong hO A n c u u2 bs w hn hl hx a e hc he
    · by_cases hw : (bs.getD 0 noB).w ≤ 134217728
      · exact stays_yes hT hO A n c u u2 hu hu2 bs w hn hl h0 hx hb hc hs hf hw
      · exact stays_wide hO A n c u u2 bs w hn hl h0 hx hc (by omega)
  · exact stays_long hO A n c u u2 w (by omega)
end

end Go.Proofs.Ytnmfgcdenngpfaa.Width
