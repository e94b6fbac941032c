/- The law: whatever becomes of a spot, it is as the document says. -/
import Derived.Test.YtkjbimoflmkekaaSpotGOpen
import Derived.Deep.CutBlock
namespace Go.Proofs.Ytkjbimoflmkekaa.Spot
open Go.RowKit Go.Sort Go.Proofs.Ytkjbimoflmkekaa.Strut Go.Proofs.Ytkjbimoflmkekaa.More
set_option linter.unusedVariables false
set_option linter.unusedSimpArgs false

/-- What is said of a document's spot that a function answers. -/
def GivenR (x : Rp) (B : Nat) (w : World) (v : Value) : Prop := ∃ A n c, v = rpv x A n c ∧ Mine w B A n c x.ms
theorem given_keeps (x : Rp) (B : Nat) : Hold.Keeps (GivenR x B) := fun w w' u k ⟨A, n, c, e, h⟩ => ⟨A, n, c, e, h.below k⟩
theorem given_of {f : FuncId} {args : Array Value} {w : World} {x : Rp} {B : Nat} (hB : B ≤ w.heap.size) (h : Calls Try.prog f args w (GivesR w x)) :
    Calls Try.prog f args w fun e w' => ∃ u, e = .returned u ∧ GivenR x B w' u ∧ Below w.heap.size w w' :=
  h.mono fun e w' ⟨⟨A, n, c, he, hm⟩, hb⟩ => ⟨_, he, ⟨A, n, c, rfl, Mine.mono hm hB⟩, hb⟩
theorem given_fix {f : FuncId} {args : Array Value} {w : World} {x : Rp} (h : Calls Try.prog f args w fun e w' => e = .returned (rpv x none 0 0) ∧ Below w.heap.size w w') (hx : x.ms = []) : Calls Try.prog f args w (GivesR w x) :=
  h.mono fun e w' ⟨he, hb⟩ => ⟨⟨none, 0, 0, he, by rw [hx]; exact mine_none w' w.heap.size⟩, hb⟩

/-- What an act makes of a document's spot. -/
def nextR (a : Ac) (x : Rp) : Rp := if a.d = 0 then withR x a.m else if a.d = 1 then fixR x a.m else if a.d = 2 then passR x a.m else if a.d = 3 then belowR a.y a.m else clearedR a.y a.m

/-- Behind k acts no number is great. -/
def GoodR (k : Nat) (x : Rp) : Prop := (-((k : Int) * 2251799813685248 + 2251799813685248) ≤ x.y ∧ x.y ≤ (k : Int) * 2251799813685248 + 2251799813685248) ∧ x.ms.all in50 = true ∧ x.ms.length ≤ k
theorem GoodR.fine {k : Nat} {x : Rp} (h : GoodR k x) (hk : k ≤ 100) : FineR x := by
  obtain ⟨h1, h2, h3⟩ := h
  exact ⟨by omega, all50_inB h2, by omega⟩
theorem GoodR.next {k : Nat} {x : Rp} {a : Ac} (h : GoodR k x) (h1 : in50 a.y = true) (h2 : in50 a.m = true) : GoodR (k + 1) (nextR a x) := by
  obtain ⟨⟨y1, y2⟩, hm, hl⟩ := h
  obtain ⟨y, ms, hh, hs⟩ := x
  dsimp only at y1 y2 hm hl
  have b1 := most50 ms hm
  have b2 := least50 ms hm
  have e1 := in50_iff.1 h1
  have e2 := in50_iff.1 h2
  have hma : (ms ++ [a.m]).all in50 = true := by rw [List.all_append, hm]; simp [h2]
  unfold nextR
  split
  · exact ⟨⟨by push_cast; (try dsimp only); omega, by push_cast; (try dsimp only); omega⟩, hma, by simp; omega⟩
  · split
    · refine ⟨?_, rfl, Nat.zero_le _⟩
      show _ ≤ atS ⟨y, Strut.mostOf ms, Strut.leastOf ms, hh, hs⟩ + a.m ∧ atS ⟨y, Strut.mostOf ms, Strut.leastOf ms, hh, hs⟩ + a.m ≤ _
      push_cast
      unfold atS
      cases hs <;> simp only [cond_true, cond_false] <;> omega
    · split
      · cases hs
        · exact ⟨⟨by push_cast; dsimp only [passR, withR, cond_false]; omega, by push_cast; dsimp only [passR, withR, cond_false]; omega⟩, hma, by simp [passR, withR]; omega⟩
        · exact ⟨⟨by push_cast; dsimp only [passR, cond_true]; omega, by push_cast; dsimp only [passR, cond_true]; omega⟩, hma, by simp [passR]; omega⟩
      · split
        · exact ⟨⟨by push_cast; (try dsimp only); omega, by push_cast; (try dsimp only); omega⟩, by simp [h2], by simp⟩
        · exact ⟨⟨by push_cast; (try dsimp only); omega, by push_cast; (try dsimp only); omega⟩, by simp [h2], by simp⟩

set_option maxRecDepth 100000 in
set_option maxHeartbeats 800000 in
theorem goes_long (A : Option Addr) (n c : Nat) (w : World) (h40 : ¬ n ≤ 40) :
    Calls Try.prog 3 #[.slice A n c] w fun e w' => e = .returned (.bool true) ∧ Below w.heap.size w w' := by
  have h41 : (40 : Int) < (n : Int) := by omega
  go_enter Try.func3, Try.ntmps3
  go_wp2_with fail
  refine (gspeaks w).mono ?_; rintro e w1 ⟨rfl, b1⟩
  go_wp2_with fail
  refine (gspeaks w1).mono ?_; rintro e w2 ⟨rfl, b2⟩
  go_wp2_with fail
  go_ret
  exact ⟨rfl, thru b1 b2⟩

/-- How both spots lie behind k acts. -/
def Both (w wr : World) (b B k : Nat) (x : Rp) : Prop :=
  Below w.heap.size w wr ∧ Lies wr b (sprow x.sp) ∧ (∃ A n c, Lies wr (b + 1) (rprow x A n c) ∧ Mine wr B A n c x.ms) ∧ GoodR k x

set_option maxRecDepth 100000 in
set_option maxHeartbeats 4000000 in
theorem goes_yes (A : Option Addr) (n c : Nat) (xs : List Ac) (w : World) (hn : n = xs.length) (hx : Acts w w.heap.size A xs) (h40 : n ≤ 40) :
    Calls Try.prog 3 #[.slice A n c] w fun e w' => e = .returned (.bool true) ∧ Below w.heap.size w w' := by
  have h41 : ¬ (40 : Int) < (n : Int) := by omega
  have HX := Lib.hid hx
  have HN := Lib.hid (⟨hn, h40⟩ : n = xs.length ∧ n ≤ 40)
  clear hx hn h40
  go_enter Try.func3, Try.ntmps3
  go_wp2_with fail
  refine (gspeaks w).mono ?_; rintro e w1 ⟨rfl, b1⟩
  go_upto_region 4 with fail
  generalize hW : World.alloc (World.alloc _ _) _ = W
  have L3 := two_news w1 27 30 (sprow zeroSp) (rprow zeroRp none 0 0) (by simp)
  replace L3 := (show Lies W w1.heap.size (sprow zeroSp) ∧ Lies W (w1.heap.size + 1) (rprow zeroRp none 0 0) ∧ Below w1.heap.size w1 W by rw [← hW]; exact L3)
  have hWs : W.heap.size = w1.heap.size + 2 := by rw [← hW]; simp
  obtain ⟨b3, hb3⟩ : ∃ b, w1.heap.size = b := ⟨_, rfl⟩
  rw [hb3] at L3 hWs
  have HB := Lib.hid (⟨by rw [← hb3]; exact b1.size, hWs⟩ : w.heap.size ≤ b3 ∧ W.heap.size = b3 + 2)
  have L4 := Lib.hid (⟨thru b1 (by rw [hb3]; exact L3.2.2), L3.1, ⟨none, 0, 0, L3.2.1, mine_none _ _⟩, by refine ⟨?_, rfl, Nat.zero_le _⟩; show _ ≤ (0 : Int) ∧ (0 : Int) ≤ _; simp⟩ : Both w W b3 (b3 + 2) 0 zeroRp)
  have HWs := Lib.hid (⟨L4.out.1.size, Nat.le_of_eq hWs.symm⟩ : w.heap.size ≤ W.heap.size ∧ b3 + 2 ≤ W.heap.size)
  rw [hb3]
  clear hW L3 hb3 hWs b1
  go_wp2_with fail
  go_loopw [19] (fun i wr => ∃ k : Nat, ∃ x : Rp, k ≤ n ∧ i = .int .i64 (k : Int) ∧ Hid (Both w wr b3 (b3 + 2) k x)) (fun i _ => n - (intOf i).toNat)
  case atStart => exact ⟨0, zeroRp, Nat.zero_le _, rfl, L4⟩
  case round =>
    obtain ⟨k, x, hk, rfl, H⟩ := hrel
    by_cases hlt : k < n
    · have hki : (k : Int) < (n : Int) := by omega
      have hk0 : ¬ (k : Int) < 0 := by omega
      have hwk : IntKind.i64.wrap ((k : Int) + 1) = (k : Int) + 1 := by have := HN.out; exact IntWalk.i64_in _ (by omega)
      obtain ⟨a, ha⟩ : ∃ a, xs[k]? = some a := ⟨_, List.getElem?_eq_getElem (by rw [← HN.out.1]; exact hlt)⟩
      obtain ⟨ad, rfl, -, d0, d1, d2⟩ := (HX.out.thru H.out.1) k a ha
      obtain ⟨d, ay, am⟩ := a
      dsimp only at d0 d1 d2
      go_upto_region 7 with fail
      generalize hW1 : World.alloc wr _ = W1
      obtain ⟨b6, hb6⟩ : ∃ b, wr.heap.size = b := ⟨_, rfl⟩
      have k1 : Below wr.heap.size wr W1 := by rw [← hW1]; exact ba1 _ _
      have z6 : Lies W1 b6 [.int .i64 d, .int .i64 ay, .int .i64 am] := by rw [← hW1, ← hb6]; exact Lies.new wr _ _
      try rw [hb6]
      obtain ⟨hBo, hls, ⟨A1, n1, c1, hlr, hmi⟩, hgo⟩ := H.out
      have hb4 := hlr.lt (by simp)
      have K1 := Lib.hid (⟨thru hBo k1, z6, hls.below (by simp) k1, hlr.below (by simp) k1, hmi.below k1, hgo, by rw [← hb6]; omega⟩ : Below w.heap.size w W1 ∧ Lies W1 b6 [.int .i64 d, .int .i64 ay, .int .i64 am] ∧ Lies W1 b3 (sprow x.sp) ∧ Lies W1 (b3 + 1) (rprow x A1 n1 c1) ∧ Mine W1 (b3 + 2) A1 n1 c1 x.ms ∧ GoodR k x ∧ b3 + 2 ≤ b6)
      have e0 : W1.cell? ⟨b6, 0, none⟩ = some (.int .i64 d) := z6.at' 0
      have e1 : W1.cell? ⟨b6, 1, none⟩ = some (.int .i64 ay) := z6.at' 1
      have e2 : W1.cell? ⟨b6, 2, none⟩ = some (.int .i64 am) := z6.at' 2
      clear hW1 hb6 k1 z6 hBo hls hlr hmi hgo H hb4 d0 d1 d2 ha
      obtain ⟨sm, hsm⟩ : ∃ sm, [ay, am].all in50 = sm := ⟨_, rfl⟩
      have HSM := Lib.hid hsm
      clear hsm
      cases sm with
      | false =>
        go_wp2_with (first
          | (go_at_call 8; refine (gsmall_is _ 2 2 [ay, am] _ rfl (by omega) _ (nums2 W1 ay am) _ HSM.out).mono ?_; rintro e w2 ⟨rfl, rfl⟩))
        go_ret
        exact ⟨rfl, thru K1.out.1 (ba1 _ _)⟩
      | true =>
        have hay : in50 ay = true ∧ in50 am = true := by have := HSM.out; simp only [List.all_cons, List.all_nil, Bool.and_true, Bool.and_eq_true] at this; exact this
        have HAY := Lib.hid hay
        clear hay
        go_upto_region 9 with (first
          | (go_at_call 8; refine (gsmall_is _ 2 2 [ay, am] _ rfl (by omega) _ (nums2 W1 ay am) _ HSM.out).mono ?_; rintro e w2 ⟨rfl, rfl⟩))
        generalize hW2 : World.alloc W1 _ = W2
        have k2 : Below W1.heap.size W1 W2 := by rw [← hW2]; exact ba1 _ _
        have K2 := Lib.hid (⟨thru K1.out.1 k2, K1.out.2.1.below (by simp) k2, K1.out.2.2.1.below (by simp) k2, K1.out.2.2.2.1.below (by simp) k2, K1.out.2.2.2.2.1.below k2, K1.out.2.2.2.2.2.1, K1.out.2.2.2.2.2.2⟩ : Below w.heap.size w W2 ∧ Lies W2 b6 [.int .i64 d, .int .i64 ay, .int .i64 am] ∧ Lies W2 b3 (sprow x.sp) ∧ Lies W2 (b3 + 1) (rprow x A1 n1 c1) ∧ Mine W2 (b3 + 2) A1 n1 c1 x.ms ∧ GoodR k x ∧ b3 + 2 ≤ b6)
        have hWs2 : b3 + 2 ≤ W2.heap.size := by have := K2.out.2.2.2.1.lt (by simp); have := K2.out.2.1.lt (by simp); have := K2.out.2.2.2.2.2.2; omega
        have HW2 := Lib.hid hWs2
        have hfi : FineR x := K2.out.2.2.2.2.2.1.fine (by have := HN.out; omega)
        have HFi := Lib.hid (⟨hfi, hfi.sp⟩ : FineR x ∧ FineS x.sp)
        clear e0 e1 e2 hW2 k2 K1 HSM hWs2 hfi
        have e0 : W2.cell? ⟨b6, 0, none⟩ = some (.int .i64 d) := K2.out.2.1.at' 0
        have HAm := Lib.hid (in50_iff.1 HAY.out.2)
        obtain ⟨xn, hxn⟩ : ∃ xn, nextR ⟨d, ay, am⟩ x = xn := ⟨_, rfl⟩
        have hgn : GoodR (k + 1) xn := by rw [← hxn]; exact K2.out.2.2.2.2.2.1.next HAY.out.1 HAY.out.2
        have HGn := Lib.hid hgn
        obtain ⟨y1, ms1, h1, s1⟩ := x
        obtain ⟨y2, ms2, h2, s2⟩ := xn
        obtain ⟨pa, hp1⟩ : ∃ p, Strut.mostOf ms1 = p := ⟨_, rfl⟩
        obtain ⟨qa, hq1⟩ : ∃ p, Strut.leastOf ms1 = p := ⟨_, rfl⟩
        obtain ⟨pb, hp2⟩ : ∃ p, Strut.mostOf ms2 = p := ⟨_, rfl⟩
        obtain ⟨qb, hq2⟩ : ∃ p, Strut.leastOf ms2 = p := ⟨_, rfl⟩
        have HP1 := Lib.hid (show Rp.sp ⟨y1, ms1, h1, s1⟩ = ⟨y1, pa, qa, h1, s1⟩ by unfold Rp.sp; rw [hp1, hq1])
        have HP2 := Lib.hid (show Rp.sp ⟨y2, ms2, h2, s2⟩ = ⟨y2, pb, qb, h2, s2⟩ by unfold Rp.sp; rw [hp2, hq2])
        have HXN := Lib.hid hxn
        clear hgn hp1 hq1 hp2 hq2 hxn
        go_upto_block 2 with fail
        go_cut [31] (fun t wx => t = .int .i64 d ∧ Hid (Both w wx b3 (b3 + 2) (k + 1) ⟨y2, ms2, h2, s2⟩))
        case first =>
          have HZ := Lib.hid (fun w' (l : Below W2.heap.size W2 w') => (⟨K2.out.2.1.below (by simp) l, by have := K2.out.2.2.1.below (by simp) l; rw [HP1.out] at this; exact this, K2.out.2.2.2.1.below (by simp) l⟩ : Lies w' b6 [.int .i64 d, .int .i64 ay, .int .i64 am] ∧ Lies w' b3 (sprow ⟨y1, pa, qa, h1, s1⟩) ∧ Lies w' (b3 + 1) (rprow ⟨y1, ms1, h1, s1⟩ A1 n1 c1)))
          have HFs : Hid (FineS ⟨y1, pa, qa, h1, s1⟩) := Lib.hid (by rw [← HP1.out]; exact HFi.out.2)
          by_cases h0 : d = 0
          · have hb0 : (d == 0) = true := by simp; omega
            have hnx : withR ⟨y1, ms1, h1, s1⟩ am = ⟨y2, ms2, h2, s2⟩ := by rw [← HXN.out]; unfold nextR; dsimp only; rw [if_pos (show d = 0 by omega)]
            have hsx : withS ⟨y1, pa, qa, h1, s1⟩ am = ⟨y2, pb, qb, h2, s2⟩ := by rw [← HP2.out, ← hnx]; rw [withR_sp, HP1.out]
            have HNX := Lib.hid (⟨hnx, hsx⟩ : withR ⟨y1, ms1, h1, s1⟩ am = ⟨y2, ms2, h2, s2⟩ ∧ withS ⟨y1, pa, qa, h1, s1⟩ am = ⟨y2, pb, qb, h2, s2⟩)
            clear hnx hsx h0
            go_upto_region 12 with fail
            clear e0
            refine Hold.wp_region_hold [.val (.agg #[.int .i64 y1, .int .i64 pa, .int .i64 qa, .bool h1, .bool s1]), .val (.pointer (some ⟨b6, 2, none⟩)), .val (.int .i64 am), .val (.agg #[.int .i64 y2, .int .i64 pb, .int .i64 qb, .bool h2, .bool s2]), .val (.agg #[.int .i64 y1, .slice A1 n1 c1, .bool h1, .bool s1]), .val (.pointer (some ⟨b6, 2, none⟩)), .val (.int .i64 am), .some (GivenR ⟨y2, ms2, h2, s2⟩ (b3 + 2))] (by kernel_rfl) (by kernel_rfl) (by kernel_rfl) ?_ ?_
            · simp only [Hold.fill, Hold.Leave.value]
              refine ⟨?_, ?_, ?_, ?_, ?_, ?_, ?_, ?_, trivial⟩
              · intro gg w' hw hk
                have q0 : w'.cell? ⟨b3, 0, none⟩ = some (.int .i64 y1) := ((HZ.out w' hw).2.1).at' 0
                have q1 : w'.cell? ⟨b3, 1, none⟩ = some (.int .i64 pa) := ((HZ.out w' hw).2.1).at' 1
                have q2 : w'.cell? ⟨b3, 2, none⟩ = some (.int .i64 qa) := ((HZ.out w' hw).2.1).at' 2
                have q3 : w'.cell? ⟨b3, 3, none⟩ = some (.bool h1) := ((HZ.out w' hw).2.1).at' 3
                have q4 : w'.cell? ⟨b3, 4, none⟩ = some (.bool s1) := ((HZ.out w' hw).2.1).at' 4
                go_simp
                exact ⟨rfl, rfl⟩
              · intro gg w' hw hk
                go_simp
                exact ⟨rfl, rfl⟩
              · intro gg w' hw hk
                have q0 : w'.cell? ⟨b6, 2, none⟩ = some (.int .i64 am) := ((HZ.out w' hw).1).at' 2
                go_simp
                exact ⟨rfl, rfl⟩
              · intro gg w' hw hk
                go_simp
                exact Hold.stays_call (gwith_is HNX.out.2 w')
              · intro gg w' hw hk
                have q0 : w'.cell? ⟨b3 + 1, 0, none⟩ = some (.int .i64 y1) := ((HZ.out w' hw).2.2).at' 0
                have q1 : w'.cell? ⟨b3 + 1, 1, none⟩ = some (.slice A1 n1 c1) := ((HZ.out w' hw).2.2).at' 1
                have q2 : w'.cell? ⟨b3 + 1, 2, none⟩ = some (.bool h1) := ((HZ.out w' hw).2.2).at' 2
                have q3 : w'.cell? ⟨b3 + 1, 3, none⟩ = some (.bool s1) := ((HZ.out w' hw).2.2).at' 3
                go_simp
                exact ⟨rfl, rfl⟩
              · intro gg w' hw hk
                go_simp
                exact ⟨rfl, rfl⟩
              · intro gg w' hw hk
                have q0 : w'.cell? ⟨b6, 2, none⟩ = some (.int .i64 am) := ((HZ.out w' hw).1).at' 2
                go_simp
                exact ⟨rfl, rfl⟩
              · refine ⟨given_keeps _ _, ?_⟩
                intro gg w' hw hk
                go_simp
                exact Hold.gives_call (given_of (Nat.le_trans HW2.out hw.size) (by have q := grwith_any (b3 + 2) ⟨y1, ms1, h1, s1⟩ A1 n1 c1 am w' (K2.out.2.2.2.2.1.below hw) HFi.out.1.2.2; rw [HNX.out.1] at q; exact q))
            intro gg w5 k5 hgg
            obtain ⟨A2, n2, c2, e8, hm8⟩ := hgg 7 _ rfl
            clear hgg
            simp only [Hold.fill, Hold.Leave.value, List.length_cons, List.length_nil, List.drop_succ_cons, List.drop_zero]
            replace e8 : gg 7 = rpv ⟨y2, ms2, h2, s2⟩ A2 n2 c2 := e8
            have z := HZ.out w5 k5
            obtain ⟨c0, c1', c2', c3, c4⟩ := sat_of z.2.1
            obtain ⟨f0, f1, f2, f3, f4⟩ := sfr_of z.2.1
            obtain ⟨r0, r1, r2, r3⟩ := rat_of z.2.2
            obtain ⟨g0, g1, g2, g3⟩ := rfr_of z.2.2
            have K5 := Lib.hid (⟨thru K2.out.1 k5, z.2.1, z.2.2, hm8⟩ : Below w.heap.size w w5 ∧ Lies w5 b3 (sprow ⟨y1, pa, qa, h1, s1⟩) ∧ Lies w5 (b3 + 1) (rprow ⟨y1, ms1, h1, s1⟩ A1 n1 c1) ∧ Mine w5 (b3 + 2) A2 n2 c2 ms2)
            clear z k5 hm8 HZ
            rw [e8]
            clear e8
            go_simp
            go_wp2_with fail
            go_meet
            refine ⟨rfl, Lib.hid ?_⟩
            have sv := Save.five w5 b3 (.int .i64 y2) (.int .i64 pb) (.int .i64 qb) (.bool h2) (.bool s2)
            have kB1 := K5.out.1.trans (sv.blw HB.out.1 K5.out.1.size)
            have zr := K5.out.2.2.1.save (by simp) sv (show ¬ b3 + 1 = b3 by omega)
            have zs := K5.out.2.1.five (.int .i64 y2) (.int .i64 pb) (.int .i64 qb) (.bool h2) (.bool s2)
            have zm := mine_save K5.out.2.2.2 sv (fun j hj e => by have := (K5.out.2.2.2.lt j hj).1; omega)
            have sr := Save.four _ (b3 + 1) (.int .i64 y2) (.slice A2 n2 c2) (.bool h2) (.bool s2) |> fun q : Save (fun k => k = b3 + 1) (((((w5.setCell ⟨b3, 0, none⟩ (.int .i64 y2)).setCell ⟨b3, 1, none⟩ (.int .i64 pb)).setCell ⟨b3, 2, none⟩ (.int .i64 qb)).setCell ⟨b3, 3, none⟩ (.bool h2)).setCell ⟨b3, 4, none⟩ (.bool s2)) _ => q
            refine ⟨kB1.trans (sr.blw (by have := HB.out.1; omega) kB1.size), ?_, ⟨A2, n2, c2, zr.four _ _ _ _, mine_save zm sr (fun j hj e => by have := (K5.out.2.2.2.lt j hj).1; omega)⟩, HGn.out⟩
            rw [HP2.out]
            exact zs.save (by simp) sr (show ¬ b3 = b3 + 1 by omega)
          · by_cases hd1 : d = 1
            · have hb0 : (d == 0) = false := by simp; omega
              have hb1 : (d == 1) = true := by simp; omega
              have hnx : fixR ⟨y1, ms1, h1, s1⟩ am = ⟨y2, ms2, h2, s2⟩ := by rw [← HXN.out]; unfold nextR; dsimp only; rw [if_neg (show ¬ d = 0 by omega), if_pos (show d = 1 by omega)]
              have hsx : fixS ⟨y1, pa, qa, h1, s1⟩ am = ⟨y2, pb, qb, h2, s2⟩ := by rw [← HP2.out, ← hnx]; rw [fixR_sp, HP1.out]
              have HNX := Lib.hid (⟨hnx, hsx⟩ : fixR ⟨y1, ms1, h1, s1⟩ am = ⟨y2, ms2, h2, s2⟩ ∧ fixS ⟨y1, pa, qa, h1, s1⟩ am = ⟨y2, pb, qb, h2, s2⟩)
              clear hnx hsx h0 hd1
              go_upto_region 14 with fail
              clear e0
              refine Hold.wp_region_hold [.val (.agg #[.int .i64 y1, .int .i64 pa, .int .i64 qa, .bool h1, .bool s1]), .val (.pointer (some ⟨b6, 2, none⟩)), .val (.int .i64 am), .val (.agg #[.int .i64 y2, .int .i64 pb, .int .i64 qb, .bool h2, .bool s2]), .val (.agg #[.int .i64 y1, .slice A1 n1 c1, .bool h1, .bool s1]), .val (.pointer (some ⟨b6, 2, none⟩)), .val (.int .i64 am), .some (GivenR ⟨y2, ms2, h2, s2⟩ (b3 + 2))] (by kernel_rfl) (by kernel_rfl) (by kernel_rfl) ?_ ?_
              · simp only [Hold.fill, Hold.Leave.value]
                refine ⟨?_, ?_, ?_, ?_, ?_, ?_, ?_, ?_, trivial⟩
                · intro gg w' hw hk
                  have q0 : w'.cell? ⟨b3, 0, none⟩ = some (.int .i64 y1) := ((HZ.out w' hw).2.1).at' 0
                  have q1 : w'.cell? ⟨b3, 1, none⟩ = some (.int .i64 pa) := ((HZ.out w' hw).2.1).at' 1
                  have q2 : w'.cell? ⟨b3, 2, none⟩ = some (.int .i64 qa) := ((HZ.out w' hw).2.1).at' 2
                  have q3 : w'.cell? ⟨b3, 3, none⟩ = some (.bool h1) := ((HZ.out w' hw).2.1).at' 3
                  have q4 : w'.cell? ⟨b3, 4, none⟩ = some (.bool s1) := ((HZ.out w' hw).2.1).at' 4
                  go_simp
                  exact ⟨rfl, rfl⟩
                · intro gg w' hw hk
                  go_simp
                  exact ⟨rfl, rfl⟩
                · intro gg w' hw hk
                  have q0 : w'.cell? ⟨b6, 2, none⟩ = some (.int .i64 am) := ((HZ.out w' hw).1).at' 2
                  go_simp
                  exact ⟨rfl, rfl⟩
                · intro gg w' hw hk
                  go_simp
                  exact Hold.stays_call (gfix_is HFs.out (by have := HAm.out; omega) HNX.out.2 w')
                · intro gg w' hw hk
                  have q0 : w'.cell? ⟨b3 + 1, 0, none⟩ = some (.int .i64 y1) := ((HZ.out w' hw).2.2).at' 0
                  have q1 : w'.cell? ⟨b3 + 1, 1, none⟩ = some (.slice A1 n1 c1) := ((HZ.out w' hw).2.2).at' 1
                  have q2 : w'.cell? ⟨b3 + 1, 2, none⟩ = some (.bool h1) := ((HZ.out w' hw).2.2).at' 2
                  have q3 : w'.cell? ⟨b3 + 1, 3, none⟩ = some (.bool s1) := ((HZ.out w' hw).2.2).at' 3
                  go_simp
                  exact ⟨rfl, rfl⟩
                · intro gg w' hw hk
                  go_simp
                  exact ⟨rfl, rfl⟩
                · intro gg w' hw hk
                  have q0 : w'.cell? ⟨b6, 2, none⟩ = some (.int .i64 am) := ((HZ.out w' hw).1).at' 2
                  go_simp
                  exact ⟨rfl, rfl⟩
                · refine ⟨given_keeps _ _, ?_⟩
                  intro gg w' hw hk
                  go_simp
                  exact Hold.gives_call (given_of (Nat.le_trans HW2.out hw.size) (by have q := given_fix (grfix_any (b3 + 2) ⟨y1, ms1, h1, s1⟩ A1 n1 c1 am w' (K2.out.2.2.2.2.1.below hw) HFi.out.1 (by have := HAm.out; omega)) rfl; rw [HNX.out.1] at q; exact q))
              intro gg w5 k5 hgg
              obtain ⟨A2, n2, c2, e8, hm8⟩ := hgg 7 _ rfl
              clear hgg
              simp only [Hold.fill, Hold.Leave.value, List.length_cons, List.length_nil, List.drop_succ_cons, List.drop_zero]
              replace e8 : gg 7 = rpv ⟨y2, ms2, h2, s2⟩ A2 n2 c2 := e8
              have z := HZ.out w5 k5
              obtain ⟨c0, c1', c2', c3, c4⟩ := sat_of z.2.1
              obtain ⟨f0, f1, f2, f3, f4⟩ := sfr_of z.2.1
              obtain ⟨r0, r1, r2, r3⟩ := rat_of z.2.2
              obtain ⟨g0, g1, g2, g3⟩ := rfr_of z.2.2
              have K5 := Lib.hid (⟨thru K2.out.1 k5, z.2.1, z.2.2, hm8⟩ : Below w.heap.size w w5 ∧ Lies w5 b3 (sprow ⟨y1, pa, qa, h1, s1⟩) ∧ Lies w5 (b3 + 1) (rprow ⟨y1, ms1, h1, s1⟩ A1 n1 c1) ∧ Mine w5 (b3 + 2) A2 n2 c2 ms2)
              clear z k5 hm8 HZ
              rw [e8]
              clear e8
              go_simp
              go_wp2_with fail
              go_meet
              refine ⟨rfl, Lib.hid ?_⟩
              have sv := Save.five w5 b3 (.int .i64 y2) (.int .i64 pb) (.int .i64 qb) (.bool h2) (.bool s2)
              have kB1 := K5.out.1.trans (sv.blw HB.out.1 K5.out.1.size)
              have zr := K5.out.2.2.1.save (by simp) sv (show ¬ b3 + 1 = b3 by omega)
              have zs := K5.out.2.1.five (.int .i64 y2) (.int .i64 pb) (.int .i64 qb) (.bool h2) (.bool s2)
              have zm := mine_save K5.out.2.2.2 sv (fun j hj e => by have := (K5.out.2.2.2.lt j hj).1; omega)
              have sr := Save.four _ (b3 + 1) (.int .i64 y2) (.slice A2 n2 c2) (.bool h2) (.bool s2) |> fun q : Save (fun k => k = b3 + 1) (((((w5.setCell ⟨b3, 0, none⟩ (.int .i64 y2)).setCell ⟨b3, 1, none⟩ (.int .i64 pb)).setCell ⟨b3, 2, none⟩ (.int .i64 qb)).setCell ⟨b3, 3, none⟩ (.bool h2)).setCell ⟨b3, 4, none⟩ (.bool s2)) _ => q
              refine ⟨kB1.trans (sr.blw (by have := HB.out.1; omega) kB1.size), ?_, ⟨A2, n2, c2, zr.four _ _ _ _, mine_save zm sr (fun j hj e => by have := (K5.out.2.2.2.lt j hj).1; omega)⟩, HGn.out⟩
              rw [HP2.out]
              exact zs.save (by simp) sr (show ¬ b3 = b3 + 1 by omega)
            · by_cases hd2 : d = 2
              · have hb0 : (d == 0) = false := by simp; omega
                have hb1 : (d == 1) = false := by simp; omega
                have hb2 : (d == 2) = true := by simp; omega
                have hnx : passR ⟨y1, ms1, h1, s1⟩ am = ⟨y2, ms2, h2, s2⟩ := by rw [← HXN.out]; unfold nextR; dsimp only; rw [if_neg (show ¬ d = 0 by omega), if_neg (show ¬ d = 1 by omega), if_pos (show d = 2 by omega)]
                have hsx : passS ⟨y1, pa, qa, h1, s1⟩ am = ⟨y2, pb, qb, h2, s2⟩ := by rw [← HP2.out, ← hnx]; rw [passR_sp, HP1.out]
                have HNX := Lib.hid (⟨hnx, hsx⟩ : passR ⟨y1, ms1, h1, s1⟩ am = ⟨y2, ms2, h2, s2⟩ ∧ passS ⟨y1, pa, qa, h1, s1⟩ am = ⟨y2, pb, qb, h2, s2⟩)
                clear hnx hsx h0 hd1 hd2
                go_upto_region 16 with fail
                clear e0
                refine Hold.wp_region_hold [.val (.agg #[.int .i64 y1, .int .i64 pa, .int .i64 qa, .bool h1, .bool s1]), .val (.pointer (some ⟨b6, 2, none⟩)), .val (.int .i64 am), .val (.agg #[.int .i64 y2, .int .i64 pb, .int .i64 qb, .bool h2, .bool s2]), .val (.agg #[.int .i64 y1, .slice A1 n1 c1, .bool h1, .bool s1]), .val (.pointer (some ⟨b6, 2, none⟩)), .val (.int .i64 am), .some (GivenR ⟨y2, ms2, h2, s2⟩ (b3 + 2))] (by kernel_rfl) (by kernel_rfl) (by kernel_rfl) ?_ ?_
                · simp only [Hold.fill, Hold.Leave.value]
                  refine ⟨?_, ?_, ?_, ?_, ?_, ?_, ?_, ?_, trivial⟩
                  · intro gg w' hw hk
                    have q0 : w'.cell? ⟨b3, 0, none⟩ = some (.int .i64 y1) := ((HZ.out w' hw).2.1).at' 0
                    have q1 : w'.cell? ⟨b3, 1, none⟩ = some (.int .i64 pa) := ((HZ.out w' hw).2.1).at' 1
                    have q2 : w'.cell? ⟨b3, 2, none⟩ = some (.int .i64 qa) := ((HZ.out w' hw).2.1).at' 2
                    have q3 : w'.cell? ⟨b3, 3, none⟩ = some (.bool h1) := ((HZ.out w' hw).2.1).at' 3
                    have q4 : w'.cell? ⟨b3, 4, none⟩ = some (.bool s1) := ((HZ.out w' hw).2.1).at' 4
                    go_simp
                    exact ⟨rfl, rfl⟩
                  · intro gg w' hw hk
                    go_simp
                    exact ⟨rfl, rfl⟩
                  · intro gg w' hw hk
                    have q0 : w'.cell? ⟨b6, 2, none⟩ = some (.int .i64 am) := ((HZ.out w' hw).1).at' 2
                    go_simp
                    exact ⟨rfl, rfl⟩
                  · intro gg w' hw hk
                    go_simp
                    exact Hold.stays_call (gpass_is HFs.out HNX.out.2 w')
                  · intro gg w' hw hk
                    have q0 : w'.cell? ⟨b3 + 1, 0, none⟩ = some (.int .i64 y1) := ((HZ.out w' hw).2.2).at' 0
                    have q1 : w'.cell? ⟨b3 + 1, 1, none⟩ = some (.slice A1 n1 c1) := ((HZ.out w' hw).2.2).at' 1
                    have q2 : w'.cell? ⟨b3 + 1, 2, none⟩ = some (.bool h1) := ((HZ.out w' hw).2.2).at' 2
                    have q3 : w'.cell? ⟨b3 + 1, 3, none⟩ = some (.bool s1) := ((HZ.out w' hw).2.2).at' 3
                    go_simp
                    exact ⟨rfl, rfl⟩
                  · intro gg w' hw hk
                    go_simp
                    exact ⟨rfl, rfl⟩
                  · intro gg w' hw hk
                    have q0 : w'.cell? ⟨b6, 2, none⟩ = some (.int .i64 am) := ((HZ.out w' hw).1).at' 2
                    go_simp
                    exact ⟨rfl, rfl⟩
                  · refine ⟨given_keeps _ _, ?_⟩
                    intro gg w' hw hk
                    go_simp
                    exact Hold.gives_call (given_of (Nat.le_trans HW2.out hw.size) (by have q := grpass_any (b3 + 2) ⟨y1, ms1, h1, s1⟩ A1 n1 c1 am w' (K2.out.2.2.2.2.1.below hw) HFi.out.1; rw [HNX.out.1] at q; exact q))
                intro gg w5 k5 hgg
                obtain ⟨A2, n2, c2, e8, hm8⟩ := hgg 7 _ rfl
                clear hgg
                simp only [Hold.fill, Hold.Leave.value, List.length_cons, List.length_nil, List.drop_succ_cons, List.drop_zero]
                replace e8 : gg 7 = rpv ⟨y2, ms2, h2, s2⟩ A2 n2 c2 := e8
                have z := HZ.out w5 k5
                obtain ⟨c0, c1', c2', c3, c4⟩ := sat_of z.2.1
                obtain ⟨f0, f1, f2, f3, f4⟩ := sfr_of z.2.1
                obtain ⟨r0, r1, r2, r3⟩ := rat_of z.2.2
                obtain ⟨g0, g1, g2, g3⟩ := rfr_of z.2.2
                have K5 := Lib.hid (⟨thru K2.out.1 k5, z.2.1, z.2.2, hm8⟩ : Below w.heap.size w w5 ∧ Lies w5 b3 (sprow ⟨y1, pa, qa, h1, s1⟩) ∧ Lies w5 (b3 + 1) (rprow ⟨y1, ms1, h1, s1⟩ A1 n1 c1) ∧ Mine w5 (b3 + 2) A2 n2 c2 ms2)
                clear z k5 hm8 HZ
                rw [e8]
                clear e8
                go_simp
                go_wp2_with fail
                go_meet
                refine ⟨rfl, Lib.hid ?_⟩
                have sv := Save.five w5 b3 (.int .i64 y2) (.int .i64 pb) (.int .i64 qb) (.bool h2) (.bool s2)
                have kB1 := K5.out.1.trans (sv.blw HB.out.1 K5.out.1.size)
                have zr := K5.out.2.2.1.save (by simp) sv (show ¬ b3 + 1 = b3 by omega)
                have zs := K5.out.2.1.five (.int .i64 y2) (.int .i64 pb) (.int .i64 qb) (.bool h2) (.bool s2)
                have zm := mine_save K5.out.2.2.2 sv (fun j hj e => by have := (K5.out.2.2.2.lt j hj).1; omega)
                have sr := Save.four _ (b3 + 1) (.int .i64 y2) (.slice A2 n2 c2) (.bool h2) (.bool s2) |> fun q : Save (fun k => k = b3 + 1) (((((w5.setCell ⟨b3, 0, none⟩ (.int .i64 y2)).setCell ⟨b3, 1, none⟩ (.int .i64 pb)).setCell ⟨b3, 2, none⟩ (.int .i64 qb)).setCell ⟨b3, 3, none⟩ (.bool h2)).setCell ⟨b3, 4, none⟩ (.bool s2)) _ => q
                refine ⟨kB1.trans (sr.blw (by have := HB.out.1; omega) kB1.size), ?_, ⟨A2, n2, c2, zr.four _ _ _ _, mine_save zm sr (fun j hj e => by have := (K5.out.2.2.2.lt j hj).1; omega)⟩, HGn.out⟩
                rw [HP2.out]
                exact zs.save (by simp) sr (show ¬ b3 = b3 + 1 by omega)
              · by_cases hd3 : d = 3
                · have hb0 : (d == 0) = false := by simp; omega
                  have hb1 : (d == 1) = false := by simp; omega
                  have hb2 : (d == 2) = false := by simp; omega
                  have hb3 : (d == 3) = true := by simp; omega
                  have hnx : belowR ay am = ⟨y2, ms2, h2, s2⟩ := by rw [← HXN.out]; unfold nextR; dsimp only; rw [if_neg (show ¬ d = 0 by omega), if_neg (show ¬ d = 1 by omega), if_neg (show ¬ d = 2 by omega), if_pos (show d = 3 by omega)]
                  have hsx : belowS ay am = ⟨y2, pb, qb, h2, s2⟩ := by rw [← HP2.out, ← hnx]; rw [belowR_sp]
                  have HNX := Lib.hid (⟨hnx, hsx⟩ : belowR ay am = ⟨y2, ms2, h2, s2⟩ ∧ belowS ay am = ⟨y2, pb, qb, h2, s2⟩)
                  clear hnx hsx h0 hd1 hd2 hd3
                  go_upto_region 18 with fail
                  clear e0
                  refine Hold.wp_region_hold [.val (.pointer (some ⟨b6, 1, none⟩)), .val (.int .i64 ay), .val (.pointer (some ⟨b6, 2, none⟩)), .val (.int .i64 am), .val (.agg #[.int .i64 y2, .int .i64 pb, .int .i64 qb, .bool h2, .bool s2]), .val (.pointer (some ⟨b6, 1, none⟩)), .val (.int .i64 ay), .val (.pointer (some ⟨b6, 2, none⟩)), .val (.int .i64 am), .some (GivenR ⟨y2, ms2, h2, s2⟩ (b3 + 2))] (by kernel_rfl) (by kernel_rfl) (by kernel_rfl) ?_ ?_
                  · simp only [Hold.fill, Hold.Leave.value]
                    refine ⟨?_, ?_, ?_, ?_, ?_, ?_, ?_, ?_, ?_, ?_, trivial⟩
                    · intro gg w' hw hk
                      go_simp
                      exact ⟨rfl, rfl⟩
                    · intro gg w' hw hk
                      have q0 : w'.cell? ⟨b6, 1, none⟩ = some (.int .i64 ay) := ((HZ.out w' hw).1).at' 1
                      go_simp
                      exact ⟨rfl, rfl⟩
                    · intro gg w' hw hk
                      go_simp
                      exact ⟨rfl, rfl⟩
                    · intro gg w' hw hk
                      have q0 : w'.cell? ⟨b6, 2, none⟩ = some (.int .i64 am) := ((HZ.out w' hw).1).at' 2
                      go_simp
                      exact ⟨rfl, rfl⟩
                    · intro gg w' hw hk
                      go_simp
                      exact Hold.stays_call (gbelow_is HNX.out.2 w')
                    · intro gg w' hw hk
                      go_simp
                      exact ⟨rfl, rfl⟩
                    · intro gg w' hw hk
                      have q0 : w'.cell? ⟨b6, 1, none⟩ = some (.int .i64 ay) := ((HZ.out w' hw).1).at' 1
                      go_simp
                      exact ⟨rfl, rfl⟩
                    · intro gg w' hw hk
                      go_simp
                      exact ⟨rfl, rfl⟩
                    · intro gg w' hw hk
                      have q0 : w'.cell? ⟨b6, 2, none⟩ = some (.int .i64 am) := ((HZ.out w' hw).1).at' 2
                      go_simp
                      exact ⟨rfl, rfl⟩
                    · refine ⟨given_keeps _ _, ?_⟩
                      intro gg w' hw hk
                      go_simp
                      exact Hold.gives_call (given_of (Nat.le_trans HW2.out hw.size) (by have q := grbelow_any ay am w'; rw [HNX.out.1] at q; exact q))
                  intro gg w5 k5 hgg
                  obtain ⟨A2, n2, c2, e8, hm8⟩ := hgg 9 _ rfl
                  clear hgg
                  simp only [Hold.fill, Hold.Leave.value, List.length_cons, List.length_nil, List.drop_succ_cons, List.drop_zero]
                  replace e8 : gg 9 = rpv ⟨y2, ms2, h2, s2⟩ A2 n2 c2 := e8
                  have z := HZ.out w5 k5
                  obtain ⟨c0, c1', c2', c3, c4⟩ := sat_of z.2.1
                  obtain ⟨f0, f1, f2, f3, f4⟩ := sfr_of z.2.1
                  obtain ⟨r0, r1, r2, r3⟩ := rat_of z.2.2
                  obtain ⟨g0, g1, g2, g3⟩ := rfr_of z.2.2
                  have K5 := Lib.hid (⟨thru K2.out.1 k5, z.2.1, z.2.2, hm8⟩ : Below w.heap.size w w5 ∧ Lies w5 b3 (sprow ⟨y1, pa, qa, h1, s1⟩) ∧ Lies w5 (b3 + 1) (rprow ⟨y1, ms1, h1, s1⟩ A1 n1 c1) ∧ Mine w5 (b3 + 2) A2 n2 c2 ms2)
                  clear z k5 hm8 HZ
                  rw [e8]
                  clear e8
                  go_simp
                  go_wp2_with fail
                  go_meet
                  refine ⟨rfl, Lib.hid ?_⟩
                  have sv := Save.five w5 b3 (.int .i64 y2) (.int .i64 pb) (.int .i64 qb) (.bool h2) (.bool s2)
                  have kB1 := K5.out.1.trans (sv.blw HB.out.1 K5.out.1.size)
                  have zr := K5.out.2.2.1.save (by simp) sv (show ¬ b3 + 1 = b3 by omega)
                  have zs := K5.out.2.1.five (.int .i64 y2) (.int .i64 pb) (.int .i64 qb) (.bool h2) (.bool s2)
                  have zm := mine_save K5.out.2.2.2 sv (fun j hj e => by have := (K5.out.2.2.2.lt j hj).1; omega)
                  have sr := Save.four _ (b3 + 1) (.int .i64 y2) (.slice A2 n2 c2) (.bool h2) (.bool s2) |> fun q : Save (fun k => k = b3 + 1) (((((w5.setCell ⟨b3, 0, none⟩ (.int .i64 y2)).setCell ⟨b3, 1, none⟩ (.int .i64 pb)).setCell ⟨b3, 2, none⟩ (.int .i64 qb)).setCell ⟨b3, 3, none⟩ (.bool h2)).setCell ⟨b3, 4, none⟩ (.bool s2)) _ => q
                  refine ⟨kB1.trans (sr.blw (by have := HB.out.1; omega) kB1.size), ?_, ⟨A2, n2, c2, zr.four _ _ _ _, mine_save zm sr (fun j hj e => by have := (K5.out.2.2.2.lt j hj).1; omega)⟩, HGn.out⟩
                  rw [HP2.out]
                  exact zs.save (by simp) sr (show ¬ b3 = b3 + 1 by omega)
                · have hb0 : (d == 0) = false := by simp; omega
                  have hb1 : (d == 1) = false := by simp; omega
                  have hb2 : (d == 2) = false := by simp; omega
                  have hb3 : (d == 3) = false := by simp; omega
                  have hnx : clearedR ay am = ⟨y2, ms2, h2, s2⟩ := by rw [← HXN.out]; unfold nextR; dsimp only; rw [if_neg (show ¬ d = 0 by omega), if_neg (show ¬ d = 1 by omega), if_neg (show ¬ d = 2 by omega), if_neg (show ¬ d = 3 by omega)]
                  have hsx : clearedS ay am = ⟨y2, pb, qb, h2, s2⟩ := by rw [← HP2.out, ← hnx]; rw [clearedR_sp]
                  have HNX := Lib.hid (⟨hnx, hsx⟩ : clearedR ay am = ⟨y2, ms2, h2, s2⟩ ∧ clearedS ay am = ⟨y2, pb, qb, h2, s2⟩)
                  clear hnx hsx h0 hd1 hd2 hd3
                  go_upto_region 10 with fail
                  clear e0
                  refine Hold.wp_region_hold [.val (.pointer (some ⟨b6, 1, none⟩)), .val (.int .i64 ay), .val (.pointer (some ⟨b6, 2, none⟩)), .val (.int .i64 am), .val (.agg #[.int .i64 y2, .int .i64 pb, .int .i64 qb, .bool h2, .bool s2]), .val (.pointer (some ⟨b6, 1, none⟩)), .val (.int .i64 ay), .val (.pointer (some ⟨b6, 2, none⟩)), .val (.int .i64 am), .some (GivenR ⟨y2, ms2, h2, s2⟩ (b3 + 2))] (by kernel_rfl) (by kernel_rfl) (by kernel_rfl) ?_ ?_
                  · simp only [Hold.fill, Hold.Leave.value]
                    refine ⟨?_, ?_, ?_, ?_, ?_, ?_, ?_, ?_, ?_, ?_, trivial⟩
                    · intro gg w' hw hk
                      go_simp
                      exact ⟨rfl, rfl⟩
                    · intro gg w' hw hk
                      have q0 : w'.cell? ⟨b6, 1, none⟩ = some (.int .i64 ay) := ((HZ.out w' hw).1).at' 1
                      go_simp
                      exact ⟨rfl, rfl⟩
                    · intro gg w' hw hk
                      go_simp
                      exact ⟨rfl, rfl⟩
                    · intro gg w' hw hk
                      have q0 : w'.cell? ⟨b6, 2, none⟩ = some (.int .i64 am) := ((HZ.out w' hw).1).at' 2
                      go_simp
                      exact ⟨rfl, rfl⟩
                    · intro gg w' hw hk
                      go_simp
                      exact Hold.stays_call (gcleared_is HNX.out.2 w')
                    · intro gg w' hw hk
                      go_simp
                      exact ⟨rfl, rfl⟩
                    · intro gg w' hw hk
                      have q0 : w'.cell? ⟨b6, 1, none⟩ = some (.int .i64 ay) := ((HZ.out w' hw).1).at' 1
                      go_simp
                      exact ⟨rfl, rfl⟩
                    · intro gg w' hw hk
                      go_simp
                      exact ⟨rfl, rfl⟩
                    · intro gg w' hw hk
                      have q0 : w'.cell? ⟨b6, 2, none⟩ = some (.int .i64 am) := ((HZ.out w' hw).1).at' 2
                      go_simp
                      exact ⟨rfl, rfl⟩
                    · refine ⟨given_keeps _ _, ?_⟩
                      intro gg w' hw hk
                      go_simp
                      exact Hold.gives_call (given_of (Nat.le_trans HW2.out hw.size) (by have q := grcleared_any ay am w'; rw [HNX.out.1] at q; exact q))
                  intro gg w5 k5 hgg
                  obtain ⟨A2, n2, c2, e8, hm8⟩ := hgg 9 _ rfl
                  clear hgg
                  simp only [Hold.fill, Hold.Leave.value, List.length_cons, List.length_nil, List.drop_succ_cons, List.drop_zero]
                  replace e8 : gg 9 = rpv ⟨y2, ms2, h2, s2⟩ A2 n2 c2 := e8
                  have z := HZ.out w5 k5
                  obtain ⟨c0, c1', c2', c3, c4⟩ := sat_of z.2.1
                  obtain ⟨f0, f1, f2, f3, f4⟩ := sfr_of z.2.1
                  obtain ⟨r0, r1, r2, r3⟩ := rat_of z.2.2
                  obtain ⟨g0, g1, g2, g3⟩ := rfr_of z.2.2
                  have K5 := Lib.hid (⟨thru K2.out.1 k5, z.2.1, z.2.2, hm8⟩ : Below w.heap.size w w5 ∧ Lies w5 b3 (sprow ⟨y1, pa, qa, h1, s1⟩) ∧ Lies w5 (b3 + 1) (rprow ⟨y1, ms1, h1, s1⟩ A1 n1 c1) ∧ Mine w5 (b3 + 2) A2 n2 c2 ms2)
                  clear z k5 hm8 HZ
                  rw [e8]
                  clear e8
                  go_simp
                  go_wp2_with fail
                  go_meet
                  refine ⟨rfl, Lib.hid ?_⟩
                  have sv := Save.five w5 b3 (.int .i64 y2) (.int .i64 pb) (.int .i64 qb) (.bool h2) (.bool s2)
                  have kB1 := K5.out.1.trans (sv.blw HB.out.1 K5.out.1.size)
                  have zr := K5.out.2.2.1.save (by simp) sv (show ¬ b3 + 1 = b3 by omega)
                  have zs := K5.out.2.1.five (.int .i64 y2) (.int .i64 pb) (.int .i64 qb) (.bool h2) (.bool s2)
                  have zm := mine_save K5.out.2.2.2 sv (fun j hj e => by have := (K5.out.2.2.2.lt j hj).1; omega)
                  have sr := Save.four _ (b3 + 1) (.int .i64 y2) (.slice A2 n2 c2) (.bool h2) (.bool s2) |> fun q : Save (fun k => k = b3 + 1) (((((w5.setCell ⟨b3, 0, none⟩ (.int .i64 y2)).setCell ⟨b3, 1, none⟩ (.int .i64 pb)).setCell ⟨b3, 2, none⟩ (.int .i64 qb)).setCell ⟨b3, 3, none⟩ (.bool h2)).setCell ⟨b3, 4, none⟩ (.bool s2)) _ => q
                  refine ⟨kB1.trans (sr.blw (by have := HB.out.1; omega) kB1.size), ?_, ⟨A2, n2, c2, zr.four _ _ _ _, mine_save zm sr (fun j hj e => by have := (K5.out.2.2.2.lt j hj).1; omega)⟩, HGn.out⟩
                  rw [HP2.out]
                  exact zs.save (by simp) sr (show ¬ b3 = b3 + 1 by omega)
        case rest =>
        obtain ⟨rfl, H9⟩ := hcut
        clear K2 HXN HFi HP1 HAm HAY e0 HW2
        obtain ⟨hBo, hls, ⟨A2, n2, c2, hlr, hmi⟩, -⟩ := H9.out
        rw [HP2.out] at hls
        have K9 := Lib.hid (⟨hBo, hls, hlr, hmi⟩ : Below w.heap.size w wc ∧ Lies wc b3 (sprow ⟨y2, pb, qb, h2, s2⟩) ∧ Lies wc (b3 + 1) (rprow ⟨y2, ms2, h2, s2⟩ A2 n2 c2) ∧ Mine wc (b3 + 2) A2 n2 c2 ms2)
        have hfi : FineR ⟨y2, ms2, h2, s2⟩ := HGn.out.fine (by have := HN.out; omega)
        obtain ⟨a2, ha2⟩ : ∃ a, atS ⟨y2, pb, qb, h2, s2⟩ = a := ⟨_, rfl⟩
        have HFi := Lib.hid (⟨hfi, by rw [← HP2.out]; exact hfi.sp, ha2, by rw [HP2.out]; exact ha2⟩ : FineR ⟨y2, ms2, h2, s2⟩ ∧ FineS ⟨y2, pb, qb, h2, s2⟩ ∧ atS ⟨y2, pb, qb, h2, s2⟩ = a2 ∧ atS (Rp.sp ⟨y2, ms2, h2, s2⟩) = a2)
        have HZ := Lib.hid (fun w' (l : Below wc.heap.size wc w') => (⟨hls.below (by simp) l, hlr.below (by simp) l⟩ : Lies w' b3 (sprow ⟨y2, pb, qb, h2, s2⟩) ∧ Lies w' (b3 + 1) (rprow ⟨y2, ms2, h2, s2⟩ A2 n2 c2)))
        clear hBo hls hlr hmi hfi ha2 H9
        go_upto_region 19 with fail
        refine HoldAll.wp_region_hold_all [.val (.agg #[.int .i64 y2, .int .i64 pb, .int .i64 qb, .bool h2, .bool s2]), .val (.agg #[.int .i64 y2, .slice A2 n2 c2, .bool h2, .bool s2]), .val (.agg #[.int .i64 y2, .int .i64 pb, .int .i64 qb, .bool h2, .bool s2]), .val (.bool false), .val (.bool false), .val (.agg #[.int .i64 y2, .int .i64 pb, .int .i64 qb, .bool h2, .bool s2]), .val (.int .i64 a2), .val (.agg #[.int .i64 y2, .slice A2 n2 c2, .bool h2, .bool s2]), .val (.int .i64 a2), .val (.bool false), .val (.bool false)] (by kernel_rfl) (by kernel_rfl) (by kernel_rfl) ?_ ?_
        · simp only [Hold.fill, Hold.Leave.value]
          refine ⟨?_, ?_, ?_, ?_, ?_, ?_, ?_, ?_, ?_, ?_, ?_, trivial⟩
          · intro gg w' hw hk
            have q0 : w'.cell? ⟨b3, 0, none⟩ = some (.int .i64 y2) := ((HZ.out w' hw).1).at' 0
            have q1 : w'.cell? ⟨b3, 1, none⟩ = some (.int .i64 pb) := ((HZ.out w' hw).1).at' 1
            have q2 : w'.cell? ⟨b3, 2, none⟩ = some (.int .i64 qb) := ((HZ.out w' hw).1).at' 2
            have q3 : w'.cell? ⟨b3, 3, none⟩ = some (.bool h2) := ((HZ.out w' hw).1).at' 3
            have q4 : w'.cell? ⟨b3, 4, none⟩ = some (.bool s2) := ((HZ.out w' hw).1).at' 4
            go_simp
            exact ⟨rfl, rfl⟩
          · intro gg w' hw hk
            have q0 : w'.cell? ⟨b3 + 1, 0, none⟩ = some (.int .i64 y2) := ((HZ.out w' hw).2).at' 0
            have q1 : w'.cell? ⟨b3 + 1, 1, none⟩ = some (.slice A2 n2 c2) := ((HZ.out w' hw).2).at' 1
            have q2 : w'.cell? ⟨b3 + 1, 2, none⟩ = some (.bool h2) := ((HZ.out w' hw).2).at' 2
            have q3 : w'.cell? ⟨b3 + 1, 3, none⟩ = some (.bool s2) := ((HZ.out w' hw).2).at' 3
            go_simp
            exact ⟨rfl, rfl⟩
          · intro gg w' hw hk
            go_simp
            exact Hold.stays_call (by have q := gof_any (b3 + 2) ⟨y2, ms2, h2, s2⟩ A2 n2 c2 w' (K9.out.2.2.2.below hw) HFi.out.1; rw [HP2.out] at q; exact q)
          · intro gg w' hw hk
            go_simp
            exact ⟨rfl, rfl⟩
          · intro gg w' hw hk
            go_simp
            exact ⟨rfl, rfl⟩
          · intro gg w' hw hk
            have q0 : w'.cell? ⟨b3, 0, none⟩ = some (.int .i64 y2) := ((HZ.out w' hw).1).at' 0
            have q1 : w'.cell? ⟨b3, 1, none⟩ = some (.int .i64 pb) := ((HZ.out w' hw).1).at' 1
            have q2 : w'.cell? ⟨b3, 2, none⟩ = some (.int .i64 qb) := ((HZ.out w' hw).1).at' 2
            have q3 : w'.cell? ⟨b3, 3, none⟩ = some (.bool h2) := ((HZ.out w' hw).1).at' 3
            have q4 : w'.cell? ⟨b3, 4, none⟩ = some (.bool s2) := ((HZ.out w' hw).1).at' 4
            go_simp
            exact ⟨rfl, rfl⟩
          · intro gg w' hw hk
            go_simp
            exact Hold.stays_call (gat_is HFi.out.2.1 HFi.out.2.2.1 w')
          · intro gg w' hw hk
            have q0 : w'.cell? ⟨b3 + 1, 0, none⟩ = some (.int .i64 y2) := ((HZ.out w' hw).2).at' 0
            have q1 : w'.cell? ⟨b3 + 1, 1, none⟩ = some (.slice A2 n2 c2) := ((HZ.out w' hw).2).at' 1
            have q2 : w'.cell? ⟨b3 + 1, 2, none⟩ = some (.bool h2) := ((HZ.out w' hw).2).at' 2
            have q3 : w'.cell? ⟨b3 + 1, 3, none⟩ = some (.bool s2) := ((HZ.out w' hw).2).at' 3
            go_simp
            exact ⟨rfl, rfl⟩
          · intro gg w' hw hk
            go_simp
            exact Hold.stays_call (by have q := grat_any (b3 + 2) ⟨y2, ms2, h2, s2⟩ A2 n2 c2 w' (K9.out.2.2.2.below hw) HFi.out.1; rw [HFi.out.2.2.2] at q; exact q)
          · intro gg w' hw hk
            go_simp
            exact ⟨rfl, rfl⟩
          · intro gg w' hw hk
            go_simp
            exact ⟨rfl, rfl⟩
        intro gg w7 k7 hgg
        clear hgg
        simp only [Hold.fill, Hold.Leave.value]
        have z := HZ.out w7 k7
        have HL := Lib.hid (show Both w w7 b3 (b3 + 2) (k + 1) ⟨y2, ms2, h2, s2⟩ from ⟨thru K9.out.1 k7, by rw [HP2.out]; exact z.1, ⟨A2, n2, c2, z.2, K9.out.2.2.2.below k7⟩, HGn.out⟩)
        clear z k7 HZ K9
        go_simp
        go_wp2_with fail
        go_roundw
        case rel => exact ⟨k + 1, ⟨y2, ms2, h2, s2⟩, by omega, by go_num, HL⟩
        case measure => simp [intOf]; omega
    · obtain rfl : k = n := by omega
      go_wp2_with fail
      go_ret
      exact ⟨rfl, H.out.1⟩

theorem goes_any (A : Option Addr) (n c : Nat) (xs : List Ac) (w : World) (hn : n = xs.length) (hm : n ≤ 9223372036854775807) (hx : Acts w w.heap.size A xs) :
    Calls Try.prog 3 #[.slice A n c] w fun e w' => e = .returned (.bool true) ∧ Below w.heap.size w w' := by
  by_cases h40 : n ≤ 40
  · exact goes_yes A n c xs w hn hx h40
  · exact goes_long A n c w h40

end Go.Proofs.Ytkjbimoflmkekaa.Spot
