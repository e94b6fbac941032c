
import Derived.Test.YtdibdfalahjmbaaGreatPart32
import Derived.Test.YtdibdfalahjmbaaGreatPart35
import Derived.Test.YtdibdfalahjmbaaGreatPart51
namespace Go.Proofs.YtdibdfalahjmbaaGreat.Text

open Go.RowKit Go.Sort Go.Proofs.YtdibdfalahjmbaaGreat.Rect Go.Proofs.YtdibdfalahjmbaaGreat.More Go.Proofs.YtdibdfalahjmbaaGreat.Shelf Go.Proofs.YtdibdfalahjmbaaGreat.Space Go.Proofs.YtdibdfalahjmbaaGreat.Place Go.Proofs.YtdibdfalahjmbaaGreat.Line

set_option linter.unusedVariables false

set_option linter.unusedSimpArgs false

abbrev LnsAt (w : World) (g k : Nat) (x : Ln) : Prop := w.cell? ⟨g, k * 6, none⟩ = some (.int .i64 x.l) ∧ w.cell? ⟨g, k * 6 + 1, none⟩ = some (.int .i64 x.t) ∧ w.cell? ⟨g, k * 6 + 2, none⟩ = some (.int .i64 x.r) ∧ w.cell? ⟨g, k * 6 + 3, none⟩ = some (.int .i64 x.b) ∧ w.cell? ⟨g, k * 6 + 4, none⟩ = some (.int .i64 x.a) ∧ w.cell? ⟨g, k * 6 + 5, none⟩ = some (.int .i64 x.w)

theorem eqArrT (a b c d : Int) (w : World) : (Op.equalIn 9999 44 (.agg #[.int .i64 a, .int .i64 b, .int .i64 c, .int .i64 d]) (.agg #[.int .i64 a, .int .i64 b, .int .i64 c, .int .i64 d])).run Tryz.prog w = .ok true w := by
  have u3 := Tryz.underlying3
  have a3 := Tryz.isAgg3
  have z3 := Tryz.sizeOf3
  rw [show (9999 : Nat) = 9998 + 1 from rfl, Op.equalIn]
  simp only [Sem.run_bind, run_underlying Tryz.underlying44, Result.andThen_ok]
  simp only [Std.Legacy.Range.forIn_eq_forIn_range', Std.Legacy.Range.size, Nat.sub_zero, Nat.add_sub_cancel, Nat.div_one, List.range'_succ, List.range'_zero, List.forIn_cons, List.forIn_nil]
  go_simp

theorem eqArrB (a b c d : Int) (w : World) : (Op.equalIn 10000 44 (.agg #[.int .i64 a, .int .i64 b, .int .i64 c, .int .i64 d]) (.agg #[.int .i64 a, .int .i64 b, .int .i64 c, .int .i64 d])).run Tryz.prog w = .ok true w := by
  have u3 := Tryz.underlying3
  have a3 := Tryz.isAgg3
  have z3 := Tryz.sizeOf3
  rw [show (10000 : Nat) = 9999 + 1 from rfl, Op.equalIn]
  simp only [Sem.run_bind, run_underlying Tryz.underlying44, Result.andThen_ok]
  simp only [Std.Legacy.Range.forIn_eq_forIn_range', Std.Legacy.Range.size, Nat.sub_zero, Nat.add_sub_cancel, Nat.div_one, List.range'_succ, List.range'_zero, List.forIn_cons, List.forIn_nil]
  go_simp

section

variable {S : World → (Nat → Prop) → Addr → List Fl → Prop}

set_option maxRecDepth 100000 in
set_option maxHeartbeats 1000000 in
theorem lays_few (hO : SpaceOk S) (hP : PlaceOk S) (A : Option Addr) (n c : Nat) (fs : List Fl) (f t y : Int) (AI : Option Addr) (ni ci : Nat) (its : List It) (w : World) (hn : n = fs.length) (hm : n ≤ 9223372036854775807) (hx : Floats w w.heap.size A fs) (hni : ni = its.length) (hmi : ni ≤ 9223372036854775807) (hci : ni ≤ ci) (hxi : Items w w.heap.size AI its) (hv : okT fs f t y its = false) :
    Calls Tryz.prog 3 #[.slice A n c, .int .i64 f, .int .i64 t, .int .i64 y, .slice AI ni ci] w fun e w' => e = .returned (.bool true) ∧ Below w.heap.size w w' := by
  have HBe := Lib.hid (tbegin_no A n c fs f t y AI ni ci its w hn hm hx hni hmi hxi hv)
  clear hn hm hx hni hmi hci hxi hv
  go_enter Tryz.func3, Tryz.ntmps3
  go_wp2_with (first
    | (go_at_call 4; refine HBe.out.mono ?_; rintro e w2 ⟨rfl, k2⟩; have K2 := Lib.hid k2; clear k2)
    | (go_at_call 5; refine (tspeaks hO hP w2).mono ?_; rintro e w3 ⟨rfl, k3⟩; have K3 := Lib.hid (thru K2.out k3); clear k3)
    | (go_at_call 5; refine (tspeaks hO hP w3).mono ?_; rintro e w9 ⟨rfl, k9⟩; have K9 := Lib.hid (thru K3.out k9); clear k9))
  go_ret
  exact ⟨rfl, K9.out⟩

set_option maxRecDepth 100000 in
set_option maxHeartbeats 4000000 in
theorem lays_yes (hO : SpaceOk S) (hP : PlaceOk S) (A : Option Addr) (n c : Nat) (fs : List Fl) (f t y : Int) (AI : Option Addr) (ni ci : Nat) (its : List It) (w : World) (hn : n = fs.length) (hm : n ≤ 9223372036854775807) (hx : Floats w w.heap.size A fs) (hni : ni = its.length) (hmi : ni ≤ 9223372036854775807) (hci : ni ≤ ci) (hxi : Items w w.heap.size AI its) (hnil : A = none → c = 0) (hv : okT fs f t y its = true) :
    Calls Tryz.prog 3 #[.slice A n c, .int .i64 f, .int .i64 t, .int .i64 y, .slice AI ni ci] w fun e w' => e = .returned (.bool true) ∧ Below w.heap.size w w' := by
  have ho := okT_so hv
  have HBe := Lib.hid (tbegin_any hO A n c fs f t y AI ni ci its w hn hx hni hxi hv)
  have HOf := Lib.hid (fun w1 (k : Below w.heap.size w w1) => tof_any AI ni ci its w1 hni (by have := ho.n2; omega) (hxi.thru k))
  have HLy := Lib.hid (fun w1 F p A0 c0 (hs : S w1 F p fs) (hx : MineE encI 65 w1 0 A0 its.length c0 its) (hxF : ∀ j, blk A0 = some j → ¬ F j) => lay_law hO hP ho ho.ri ho.n2 w1 F p A0 c0 hs hx hxF)
  have HRl := Lib.hid (fun w1 (k : Below w.heap.size w w1) => rlay_any A n c fs f t y AI ni ci its w1 hn hnil (hx.thru k) hni (hxi.thru k) ho)
  have HFc := Lib.hid (facts_of ho.lo ho.ri ho.n2)
  have HI := Lib.hid (⟨hni, ho.n2⟩ : ni = its.length ∧ its.length ≤ 30)
  rw [← hni] at HLy
  obtain ⟨D, hD⟩ : ∃ D, layD fs f t y its = D := ⟨_, rfl⟩
  rw [hD] at HLy HFc HRl
  have hnear : D.m.fs.all nearF = true := near49_near (nearZ_49 HFc.out.lo.fl (by have := HI.out.2; omega))
  have HFl := Lib.hid (fun w1 F p (h : S w1 F p D.m.fs) => hO.floats w1 F p D.m.fs h hnear)
  have hmany : D.out.length ≤ 30 := by
    have h1 := HFc.out.atoms
    have h2 := flat_len fun e he => (HFc.out.T.ln e he).2
    have h3 := atomsK_len its its.length
    have h4 := HI.out.2
    rw [h1] at h3
    omega
  have hfl : D.m.fs.length ≤ 1000 := by
    have h1 := ho.n1
    have h2 := HI.out.2
    rw [← hD]
    exact fin_fl (able_layK ho.ri (by omega) ho.lo (by omega) (by omega) its.length (Nat.le_refl _))
  have HMa := Lib.hid (⟨hmany, hfl⟩ : D.out.length ≤ 30 ∧ D.m.fs.length ≤ 1000)
  clear hn hm hx hni hmi hci hxi hv ho hD hnil hnear hmany hfl
  go_enter Tryz.func3, Tryz.ntmps3
  go_upto_region 5 with (first
    | (go_at_call 4; refine HBe.out.mono ?_; rintro e w2 ⟨⟨p, F, rfl, hL, hF⟩, k2⟩; have S2 := Lib.hid (⟨hL, k2, hF⟩ : S w2 F p fs ∧ Below w.heap.size w w2 ∧ ∀ k, F k → w.heap.size ≤ k); clear hL hF k2)
    | (go_at_call 5; refine (tspeaks hO hP w2).mono ?_; rintro e w3 ⟨rfl, k3⟩; have S3 := Lib.hid (⟨thruS hO S2.out.1 k3, thru S2.out.2.1 k3, S2.out.2.2⟩ : S w3 F p fs ∧ Below w.heap.size w w3 ∧ ∀ k, F k → w.heap.size ≤ k); clear k3)
    | (go_at_call 7; refine (HOf.out w3 S3.out.2.1).mono ?_; rintro e w4 ⟨⟨A4, c4, rfl, hM⟩, k4⟩; have S4 := Lib.hid (⟨thruS hO S3.out.1 k4, thru S3.out.2.1 k4, MineE.mono hM (Nat.zero_le _), fun j e x => by have := (hM.lt j e).1; have := hO.lt _ _ _ _ S3.out.1 j x; omega⟩ : S w4 F p fs ∧ Below w.heap.size w w4 ∧ MineE encI 65 w4 0 A4 ni c4 its ∧ ∀ j, blk A4 = some j → ¬ F j); clear hM k4)
    | (go_at_call 6; refine (HLy.out w4 F p A4 c4 S4.out.1 S4.out.2.2.1 S4.out.2.2.2).mono ?_; rintro e w5 ⟨⟨bx, A3, c3, F5, rfl, hQ⟩, k5⟩; have S5 := Lib.hid (⟨hQ, S4.out.2.1.trans (k5.below S4.out.2.1.size S3.out.2.2)⟩ : LaidOut S w4.heap.size w5 F F5 p bx A3 c3 ni D ∧ Below w.heap.size w w5); clear hQ k5))
  generalize hW : World.alloc w5 _ = W
  obtain ⟨b, hb⟩ : ∃ b, w5.heap.size = b := ⟨_, rfl⟩
  have k6 : Below w5.heap.size w5 W := by rw [← hW]; exact ba1 _ _
  have z6 : RowAt W b [.slice (some ⟨bx, 0, none⟩) ni ni, .slice A3 D.out.length c3, .int .i64 D.m.y] := by rw [← hW, ← hb]; exact RowAt.new w5 _ _
  rw [hb]
  have S6 := Lib.hid (⟨⟨z6, (S5.out.1.bo.below k6).mono (Nat.zero_le _), (S5.out.1.li.below k6).mono (Nat.zero_le _)⟩, thru S5.out.2 k6, thruS hO S5.out.1.sp k6⟩ : Has W b bx A3 c3 ni D ∧ Below w.heap.size w W ∧ S W F5 p D.m.fs)
  clear hW hb k6 z6 S5 S4 S3 S2 HBe HOf HLy
  go_upto_region 6 with (first
    | (go_at_call 8; refine (HRl.out W S6.out.2.1).mono ?_; rintro e w7 ⟨⟨b2, A2, c2', AF, cF, rfl, mb, ml, mf⟩, k7⟩; have S7 := Lib.hid (⟨S6.out.1.below k7, thru S6.out.2.1 k7, thruS hO S6.out.2.2 k7, mb, ml, mf⟩ : Has w7 b bx A3 c3 ni D ∧ Below w.heap.size w w7 ∧ S w7 F5 p D.m.fs ∧ MineE encB 44 w7 0 (some ⟨b2, 0, none⟩) ni ni D.box ∧ MineE encL 49 w7 0 A2 D.out.length c2' (D.out.map fun e => lnOf e.1) ∧ Floats w7 w7.heap.size AF D.m.fs); clear mb ml mf k7))
  generalize hV : World.alloc w7 _ = V
  obtain ⟨b13, hb13⟩ : ∃ b13, w7.heap.size = b13 := ⟨_, rfl⟩
  have k8 : Below w7.heap.size w7 V := by rw [← hV]; exact ba1 _ _
  have z8 : RowAt V b13 [.slice (some ⟨b2, 0, none⟩) ni ni, .slice A2 D.out.length c2', .int .i64 D.m.y, .slice AF D.m.fs.length cF] := by rw [← hV, ← hb13]; exact RowAt.new w7 _ _
  rw [hb13]
  have S8 := Lib.hid (⟨S7.out.1.below k8, thru S7.out.2.1 k8, thruS hO S7.out.2.2.1 k8, S7.out.2.2.2.1.below k8, S7.out.2.2.2.2.1.below k8, S7.out.2.2.2.2.2.thru k8, z8⟩ : Has V b bx A3 c3 ni D ∧ Below w.heap.size w V ∧ S V F5 p D.m.fs ∧ MineE encB 44 V 0 (some ⟨b2, 0, none⟩) ni ni D.box ∧ MineE encL 49 V 0 A2 D.out.length c2' (D.out.map fun e => lnOf e.1) ∧ Floats V V.heap.size AF D.m.fs ∧ RowAt V b13 [.slice (some ⟨b2, 0, none⟩) ni ni, .slice A2 D.out.length c2', .int .i64 D.m.y, .slice AF D.m.fs.length cF])
  clear hV hb13 k8 z8 S7 S6 HRl
  obtain ⟨c0, c1, c2⟩ := S8.out.1.cells
  have e0 : V.cell? ⟨b13, 0, none⟩ = some (.slice (some ⟨b2, 0, none⟩) ni ni) := S8.out.2.2.2.2.2.2.at' 0
  have e1 : V.cell? ⟨b13, 1, none⟩ = some (.slice A2 D.out.length c2') := S8.out.2.2.2.2.2.2.at' 1
  have e2 : V.cell? ⟨b13, 2, none⟩ = some (.int .i64 D.m.y) := S8.out.2.2.2.2.2.2.at' 2
  go_wp2_with fail
  clear e0 e1 e2
  go_loopw [74] (fun i wr => ∃ k : Nat, k ≤ ni ∧ i = .int .i64 (k : Int) ∧ Hid (Below V.heap.size V wr)) (fun i _ => ni - (intOf i).toNat)
  case atStart => exact ⟨0, Nat.zero_le _, rfl, Lib.hid (Below.refl _ _)⟩
  case round =>
    obtain ⟨k, hk, rfl, H⟩ := hrel
    clear c0 c1 c2
    by_cases hlt : k < ni
    · have hki : (k : Int) < (ni : Int) := by omega
      have hk0 : ¬ (k : Int) < 0 := by omega
      have hwk : IntKind.i64.wrap ((k : Int) + 1) = (k : Int) + 1 := by have := HI.out; exact IntWalk.i64_in _ (by omega)
      have hasr := S8.out.1.below H.out
      obtain ⟨d0, d1, d2, d3⟩ := hasr.box hlt
      obtain ⟨r, hr⟩ : ∃ r, bxAt D.box k = r := ⟨_, rfl⟩
      rw [hr] at d0 d1 d2 d3
      have HY := Lib.hid (fun w' (j : Below wr.heap.size wr w') => show w'.cell? ⟨b2, k * 4, none⟩ = some (.int .i64 r.l) ∧ w'.cell? ⟨b2, k * 4 + 1, none⟩ = some (.int .i64 r.t) ∧ w'.cell? ⟨b2, k * 4 + 2, none⟩ = some (.int .i64 r.r) ∧ w'.cell? ⟨b2, k * 4 + 3, none⟩ = some (.int .i64 r.b) by
        obtain ⟨x, hx, q0, q1, q2, q3, -⟩ := box_cells (S8.out.2.2.2.1.below (thru H.out j)) hlt
        have e : r = x := by rw [← hr]; unfold bxAt; rw [List.getD_eq_getElem?_getD, hx]; rfl
        rw [e]
        exact ⟨q0, q1, q2, q3⟩)
      have HR13 := Lib.hid (fun w' (j : Below wr.heap.size wr w') => S8.out.2.2.2.2.2.2.below (by simp) (thru H.out j))
      clear hasr hr
      go_upto_region 11 with fail
      generalize hW : World.alloc wr _ = W1
      obtain ⟨b15, hb15⟩ : ∃ b15, wr.heap.size = b15 := ⟨_, rfl⟩
      have k1 : Below wr.heap.size wr W1 := by rw [← hW]; exact ba1 _ _
      have z1 : RowAt W1 b15 [.int .i64 r.l, .int .i64 r.t, .int .i64 r.r, .int .i64 r.b] := by rw [← hW, ← hb15]; exact RowAt.new wr _ _
      try rw [hb15]
      have S1 := Lib.hid (⟨k1, z1⟩ : Below wr.heap.size wr W1 ∧ RowAt W1 b15 [.int .i64 r.l, .int .i64 r.t, .int .i64 r.r, .int .i64 r.b])
      clear hW hb15 k1 z1 d0 d1 d2 d3
      have HX := Lib.hid (fun w' (j : Below W1.heap.size W1 w') => (⟨S1.out.2.below (by simp) j, HY.out w' (thru S1.out.1 j), HR13.out w' (thru S1.out.1 j)⟩ : _ ∧ _ ∧ _))
      refine HoldAll.wp_region_hold_all [.val (.agg #[.int .i64 r.l, .int .i64 r.t, .int .i64 r.r, .int .i64 r.b]), .val (.agg #[.int .i64 r.l, .int .i64 r.t, .int .i64 r.r, .int .i64 r.b]), .val (.pointer (some ⟨b13, 0, none⟩)), .val (.slice (some ⟨b2, 0, none⟩) ni ni), .val (.int .i64 (k : Int)), .val (.pointer (some ⟨b2, k * 4, none⟩)), .val (.agg #[.int .i64 r.l, .int .i64 r.t, .int .i64 r.r, .int .i64 r.b]), .val (.bool false)] (by kernel_rfl) (by kernel_rfl) (by kernel_rfl) ?_ ?_
      · simp only [Hold.fill, Hold.Leave.value]
        refine ⟨?_, ?_, ?_, ?_, ?_, ?_, ?_, ?_, trivial⟩
        · intro gg w' hw hk
          have q0 : w'.cell? ⟨b15, 0, none⟩ = some (.int .i64 r.l) := ((HX.out w' hw).1).at' 0
          have q1 : w'.cell? ⟨b15, 1, none⟩ = some (.int .i64 r.t) := ((HX.out w' hw).1).at' 1
          have q2 : w'.cell? ⟨b15, 2, none⟩ = some (.int .i64 r.r) := ((HX.out w' hw).1).at' 2
          have q3 : w'.cell? ⟨b15, 3, none⟩ = some (.int .i64 r.b) := ((HX.out w' hw).1).at' 3
          go_simp
          exact ⟨rfl, rfl⟩
        · intro gg w' hw hk
          go_simp
          exact Hold.stays_call (rto_any r.l r.t r.r r.b w')
        · intro gg w' hw hk
          go_simp
          exact ⟨rfl, rfl⟩
        · intro gg w' hw hk
          have q0 : w'.cell? ⟨b13, 0, none⟩ = some (.slice (some ⟨b2, 0, none⟩) ni ni) := ((HX.out w' hw).2.2).at' 0
          go_simp
          exact ⟨rfl, rfl⟩
        · intro gg w' hw hk
          go_simp
          exact ⟨rfl, rfl⟩
        · intro gg w' hw hk
          go_simp
          exact ⟨rfl, rfl⟩
        · intro gg w' hw hk
          have q0 : w'.cell? ⟨b2, k * 4, none⟩ = some (.int .i64 r.l) := ((HX.out w' hw).2.1).1
          have q1 : w'.cell? ⟨b2, k * 4 + 1, none⟩ = some (.int .i64 r.t) := ((HX.out w' hw).2.1).2.1
          have q2 : w'.cell? ⟨b2, k * 4 + 2, none⟩ = some (.int .i64 r.r) := ((HX.out w' hw).2.1).2.2.1
          have q3 : w'.cell? ⟨b2, k * 4 + 3, none⟩ = some (.int .i64 r.b) := ((HX.out w' hw).2.1).2.2.2
          go_simp
          exact ⟨rfl, rfl⟩
        · intro gg w' hw hk
          have q := eqArrB r.l r.t r.r r.b w'
          go_simp
          exact ⟨rfl, rfl⟩
      intro gg w2 k2 hgg
      clear hgg
      simp only [Hold.fill, Hold.Leave.value]
      have K2 := Lib.hid (thru S1.out.1 k2)
      clear k2
      go_simp
      go_wp2_with fail
      go_roundw
      case rel => exact ⟨k + 1, by omega, by go_num, Lib.hid (thru H.out K2.out)⟩
      case measure => simp [intOf]; omega
    · obtain rfl : k = ni := by omega
      obtain ⟨wo, hwo⟩ : ∃ x, x = wr := ⟨_, rfl⟩
      subst hwo
      obtain ⟨c0, c1, c2⟩ := (S8.out.1.below H.out).cells
      go_wp2_with fail
      go_loopw [91] (fun i wr => ∃ j : Nat, j ≤ D.out.length ∧ i = .int .i64 (j : Int) ∧ Hid (Below wo.heap.size wo wr)) (fun i _ => D.out.length - (intOf i).toNat)
      case atStart => exact ⟨0, Nat.zero_le _, rfl, Lib.hid (Below.refl _ _)⟩
      case round =>
        obtain ⟨j, hj, rfl, G⟩ := hrel
        clear c0 c1 c2
        have HG := Lib.hid (thru H.out G.out)
        by_cases hlj : j < D.out.length
        · have hji : (j : Int) < (D.out.length : Int) := by omega
          have hj0 : ¬ (j : Int) < 0 := by omega
          have hwj : IntKind.i64.wrap ((j : Int) + 1) = (j : Int) + 1 := by have := HMa.out.1; exact IntWalk.i64_in _ (by omega)
          obtain ⟨e, he⟩ : ∃ e, D.out[j]? = some e := ⟨_, List.getElem?_eq_getElem hlj⟩
          obtain ⟨g3, eA, l0, l1, l2, l3, l4, l5⟩ := (S8.out.1.below HG.out).line he
          subst eA
          obtain ⟨X, hX⟩ : ∃ X, lnOf e.1 = X := ⟨_, rfl⟩
          rw [hX] at l0 l1 l2 l3 l4 l5
          have hm2 : (D.out.map fun e => lnOf e.1)[j]? = some X := by rw [List.getElem?_map, he]; exact congrArg some hX
          obtain ⟨g2, hg2, -⟩ := S8.out.2.2.2.2.1.form (by omega)
          subst hg2
          have HY := Lib.hid (fun wq (i : Below wr.heap.size wr wq) => (⟨MineE.at (S8.out.2.2.2.2.1.below (thru HG.out i)) j X hm2 0 (by decide), MineE.at (S8.out.2.2.2.2.1.below (thru HG.out i)) j X hm2 1 (by decide), MineE.at (S8.out.2.2.2.2.1.below (thru HG.out i)) j X hm2 2 (by decide), MineE.at (S8.out.2.2.2.2.1.below (thru HG.out i)) j X hm2 3 (by decide), MineE.at (S8.out.2.2.2.2.1.below (thru HG.out i)) j X hm2 4 (by decide), MineE.at (S8.out.2.2.2.2.1.below (thru HG.out i)) j X hm2 5 (by decide)⟩ : LnsAt wq g2 j X))
          have HR13 := Lib.hid (fun w' (i : Below wr.heap.size wr w') => S8.out.2.2.2.2.2.2.below (by simp) (thru HG.out i))
          clear he hX hm2
          go_upto_region 17 with fail
          generalize hW : World.alloc wr _ = W1
          obtain ⟨b17, hb17⟩ : ∃ b17, wr.heap.size = b17 := ⟨_, rfl⟩
          have k1 : Below wr.heap.size wr W1 := by rw [← hW]; exact ba1 _ _
          have z1 : RowAt W1 b17 (lnrow X) := by rw [← hW, ← hb17]; exact RowAt.new wr _ _
          try rw [hb17]
          have S1 := Lib.hid (⟨k1, z1⟩ : Below wr.heap.size wr W1 ∧ RowAt W1 b17 (lnrow X))
          clear hW hb17 k1 z1 l0 l1 l2 l3 l4 l5
          have HX := Lib.hid (fun w' (i : Below W1.heap.size W1 w') => (⟨S1.out.2.below (by simp) i, HY.out w' (thru S1.out.1 i), HR13.out w' (thru S1.out.1 i)⟩ : _ ∧ _ ∧ _))
          refine HoldAll.wp_region_hold_all [.val (.agg #[.int .i64 X.l, .int .i64 X.t, .int .i64 X.r, .int .i64 X.b, .int .i64 X.a, .int .i64 X.w]), .val (X.v), .val (.pointer (some ⟨b13, 1, none⟩)), .val (.slice (some ⟨g2, 0, none⟩) D.out.length c2'), .val (.int .i64 (j : Int)), .val (.pointer (some ⟨g2, j * 6, none⟩)), .val (.agg #[.int .i64 X.l, .int .i64 X.t, .int .i64 X.r, .int .i64 X.b, .int .i64 X.a, .int .i64 X.w]), .val (.bool false)] (by kernel_rfl) (by kernel_rfl) (by kernel_rfl) ?_ ?_
          · simp only [Hold.fill, Hold.Leave.value]
            refine ⟨?_, ?_, ?_, ?_, ?_, ?_, ?_, ?_, trivial⟩
            · intro gg w' hw hk
              have q0 : w'.cell? ⟨b17, 0, none⟩ = some (.int .i64 X.l) := ((HX.out w' hw).1).at' 0
              have q1 : w'.cell? ⟨b17, 1, none⟩ = some (.int .i64 X.t) := ((HX.out w' hw).1).at' 1
              have q2 : w'.cell? ⟨b17, 2, none⟩ = some (.int .i64 X.r) := ((HX.out w' hw).1).at' 2
              have q3 : w'.cell? ⟨b17, 3, none⟩ = some (.int .i64 X.b) := ((HX.out w' hw).1).at' 3
              have q4 : w'.cell? ⟨b17, 4, none⟩ = some (.int .i64 X.a) := ((HX.out w' hw).1).at' 4
              have q5 : w'.cell? ⟨b17, 5, none⟩ = some (.int .i64 X.w) := ((HX.out w' hw).1).at' 5
              go_simp
              exact ⟨rfl, rfl⟩
            · intro gg w' hw hk
              go_simp
              exact Hold.stays_call (lto_any X w')
            · intro gg w' hw hk
              go_simp
              exact ⟨rfl, rfl⟩
            · intro gg w' hw hk
              have q0 : w'.cell? ⟨b13, 1, none⟩ = some (.slice (some ⟨g2, 0, none⟩) D.out.length c2') := ((HX.out w' hw).2.2).at' 1
              go_simp
              exact ⟨rfl, rfl⟩
            · intro gg w' hw hk
              go_simp
              exact ⟨rfl, rfl⟩
            · intro gg w' hw hk
              go_simp
              exact ⟨rfl, rfl⟩
            · intro gg w' hw hk
              have q0 : w'.cell? ⟨g2, j * 6, none⟩ = some (.int .i64 X.l) := ((HX.out w' hw).2.1).1
              have q1 : w'.cell? ⟨g2, j * 6 + 1, none⟩ = some (.int .i64 X.t) := ((HX.out w' hw).2.1).2.1
              have q2 : w'.cell? ⟨g2, j * 6 + 2, none⟩ = some (.int .i64 X.r) := ((HX.out w' hw).2.1).2.2.1
              have q3 : w'.cell? ⟨g2, j * 6 + 3, none⟩ = some (.int .i64 X.b) := ((HX.out w' hw).2.1).2.2.2.1
              have q4 : w'.cell? ⟨g2, j * 6 + 4, none⟩ = some (.int .i64 X.a) := ((HX.out w' hw).2.1).2.2.2.2.1
              have q5 : w'.cell? ⟨g2, j * 6 + 5, none⟩ = some (.int .i64 X.w) := ((HX.out w' hw).2.1).2.2.2.2.2
              go_simp
              exact ⟨rfl, rfl⟩
            · intro gg w' hw hk
              have q := eqArrT X.l X.t X.r X.b w'
              go_simp
              exact ⟨rfl, rfl⟩
          intro gg w2 k2 hgg
          clear hgg
          simp only [Hold.fill, Hold.Leave.value]
          have K2 := Lib.hid (thru S1.out.1 k2)
          clear k2
          go_simp
          go_wp2_with fail
          go_roundw
          case rel => exact ⟨j + 1, by omega, by go_num, Lib.hid (thru G.out K2.out)⟩
          case measure => simp [intOf]; omega
        · obtain rfl : j = D.out.length := by omega
          obtain ⟨wp, hwp⟩ : ∃ x, x = wr := ⟨_, rfl⟩
          subst hwp
          have e3 := (S8.out.2.2.2.2.2.2.below (by simp) HG.out).at' 3
          go_upto_region 21 with (first
            | (go_at_call 11; refine (HFl.out _ _ _ (thruS hO S8.out.2.2.1 HG.out)).mono ?_; rintro e w8 ⟨⟨A8, c8, rfl, hm⟩, k8⟩; have M8 := Lib.hid hm; have K8 := Lib.hid (thru HG.out k8); clear hm k8))
          clear e3
          have e3 : w8.cell? ⟨b13, 3, none⟩ = some (.slice AF D.m.fs.length cF) := (S8.out.2.2.2.2.2.2.below (by simp) K8.out).at' 3
          go_wp2_with fail
          clear e3
          obtain ⟨nf, hnf⟩ : ∃ nf, D.m.fs.length = nf := ⟨_, rfl⟩
          rw [hnf] at M8 ⊢
          have HNf := Lib.hid hnf
          go_loopw [115] (fun i wr => ∃ k : Nat, k ≤ nf ∧ i = .int .i64 (k : Int) ∧ Hid (Below w8.heap.size w8 wr)) (fun i _ => nf - (intOf i).toNat)
          case atStart => exact ⟨0, Nat.zero_le _, rfl, Lib.hid (Below.refl _ _)⟩
          case round =>
            obtain ⟨i, hi, rfl, I8⟩ := hrel
            by_cases hli : i < nf
            · have hii : (i : Int) < (nf : Int) := by omega
              have hi0 : ¬ (i : Int) < 0 := by omega
              have hwi : IntKind.i64.wrap ((i : Int) + 1) = (i : Int) + 1 := by have := HMa.out.2; exact IntWalk.i64_in _ (by omega)
              obtain ⟨x, hx⟩ : ∃ x, D.m.fs[i]? = some x := ⟨_, List.getElem?_eq_getElem (by omega)⟩
              obtain ⟨g8, rfl, hg1, hg2, -, -⟩ := M8.out.form (by omega)
              obtain ⟨ad, rfl, hab, hat⟩ := (S8.out.2.2.2.2.2.1.thru (thru K8.out I8.out)) i x hx
              have hgl := (hg2 : g8 < w8.heap.size)
              have m0 : wr.cell? ⟨g8, i * 5, none⟩ = some (.int .i64 x.s) := (I8.out.cell (p := ⟨g8, i * 5, none⟩) hgl).trans (MineE.at M8.out i x hx 0 (by decide))
              have m1 : wr.cell? ⟨g8, i * 5 + 1, none⟩ = some (.int .i64 x.l) := (I8.out.cell (p := ⟨g8, i * 5 + 1, none⟩) hgl).trans (MineE.at M8.out i x hx 1 (by decide))
              have m2 : wr.cell? ⟨g8, i * 5 + 2, none⟩ = some (.int .i64 x.t) := (I8.out.cell (p := ⟨g8, i * 5 + 2, none⟩) hgl).trans (MineE.at M8.out i x hx 2 (by decide))
              have m3 : wr.cell? ⟨g8, i * 5 + 3, none⟩ = some (.int .i64 x.r) := (I8.out.cell (p := ⟨g8, i * 5 + 3, none⟩) hgl).trans (MineE.at M8.out i x hx 3 (by decide))
              have m4 : wr.cell? ⟨g8, i * 5 + 4, none⟩ = some (.int .i64 x.b) := (I8.out.cell (p := ⟨g8, i * 5 + 4, none⟩) hgl).trans (MineE.at M8.out i x hx 4 (by decide))
              have hbl : (ad.add (i * 5)).block < wr.heap.size := by rw [block_of_add]; exact hab
              have HD0 := Lib.hid (fun w' (j : Below wr.heap.size wr w') => AtF.below hat hbl j)
              have HR13 := Lib.hid (fun w' (j : Below wr.heap.size wr w') => show RowAt w' b13 [.slice (some ⟨b2, 0, none⟩) k k, .slice A2 D.out.length c2', .int .i64 D.m.y, .slice (some ad) nf cF] from by
                have := S8.out.2.2.2.2.2.2.below (by simp) (thru (thru K8.out I8.out) j)
                rw [hnf] at this
                exact this)
              clear hx hg1 hg2 hgl hbl hat hab hnf
              go_upto_region 26 with fail
              generalize hW : World.alloc wr _ = W1
              obtain ⟨b20, hb20⟩ : ∃ b20, wr.heap.size = b20 := ⟨_, rfl⟩
              have k1 : Below wr.heap.size wr W1 := by rw [← hW]; exact ba1 _ _
              have z1 : RowAt W1 b20 [.int .i64 x.s, .int .i64 x.l, .int .i64 x.t, .int .i64 x.r, .int .i64 x.b] := by rw [← hW, ← hb20]; exact RowAt.new wr _ _
              try rw [hb20]
              have S1 := Lib.hid (⟨k1, z1⟩ : Below wr.heap.size wr W1 ∧ RowAt W1 b20 [.int .i64 x.s, .int .i64 x.l, .int .i64 x.t, .int .i64 x.r, .int .i64 x.b])
              clear hW hb20 k1 z1 m0 m1 m2 m3 m4
              have HX := Lib.hid (fun w' (i' : Below W1.heap.size W1 w') => (⟨S1.out.2.below (by simp) i', HD0.out w' (thru S1.out.1 i'), HR13.out w' (thru S1.out.1 i')⟩ : _ ∧ _ ∧ _))
              refine HoldAll.wp_region_hold_all [.val (.pointer (some ⟨b20, 0, none⟩)), .val (.int .i64 x.s), .val (.pointer (some ⟨b13, 3, none⟩)), .val (.slice (some ad) nf cF), .val (.int .i64 (i : Int)), .val (.pointer (some (ad.add (i * 5)))), .val (.pointer (some (ad.add (i * 5)))), .val (.int .i64 x.s), .val (.bool false), .val (.bool false), .val (.pointer (some ⟨b20, 1, none⟩)), .val (.agg #[.int .i64 x.l, .int .i64 x.t, .int .i64 x.r, .int .i64 x.b]), .val (.agg #[.int .i64 x.l, .int .i64 x.t, .int .i64 x.r, .int .i64 x.b]), .val (.pointer (some ⟨b13, 3, none⟩)), .val (.slice (some ad) nf cF), .val (.int .i64 (i : Int)), .val (.pointer (some (ad.add (i * 5)))), .val (.pointer (some ⟨(ad.add (i * 5)).block, (ad.add (i * 5)).off + 1, none⟩)), .val (.agg #[.int .i64 x.l, .int .i64 x.t, .int .i64 x.r, .int .i64 x.b]), .val (.bool false), .val (.bool false)] (by kernel_rfl) (by kernel_rfl) (by kernel_rfl) ?_ ?_
              · simp only [Hold.fill, Hold.Leave.value]
                refine ⟨?_, ?_, ?_, ?_, ?_, ?_, ?_, ?_, ?_, ?_, ?_, ?_, ?_, ?_, ?_, ?_, ?_, ?_, ?_, ?_, ?_, trivial⟩
                · intro gg w' hw hk
                  go_simp
                  exact ⟨rfl, rfl⟩
                · intro gg w' hw hk
                  have q0 : w'.cell? ⟨b20, 0, none⟩ = some (.int .i64 x.s) := ((HX.out w' hw).1).at' 0
                  go_simp
                  exact ⟨rfl, rfl⟩
                · intro gg w' hw hk
                  go_simp
                  exact ⟨rfl, rfl⟩
                · intro gg w' hw hk
                  have q0 : w'.cell? ⟨b13, 3, none⟩ = some (.slice (some ad) nf cF) := ((HX.out w' hw).2.2).at' 3
                  go_simp
                  exact ⟨rfl, rfl⟩
                · intro gg w' hw hk
                  go_simp
                  exact ⟨rfl, rfl⟩
                · intro gg w' hw hk
                  go_simp
                  exact ⟨rfl, rfl⟩
                · intro gg w' hw hk
                  go_simp
                  exact ⟨rfl, rfl⟩
                · intro gg w' hw hk
                  have q0 : w'.cell? (ad.add (i * 5)) = some (.int .i64 x.s) := ((HX.out w' hw).2.1).1
                  go_simp
                  exact ⟨rfl, rfl⟩
                · intro gg w' hw hk
                  go_simp
                  exact ⟨rfl, rfl⟩
                · intro gg w' hw hk
                  go_simp
                  exact ⟨rfl, rfl⟩
                · intro gg w' hw hk
                  go_simp
                  exact ⟨rfl, rfl⟩
                · intro gg w' hw hk
                  have q0 : w'.cell? ⟨b20, 1, none⟩ = some (.int .i64 x.l) := ((HX.out w' hw).1).at' 1
                  have q1 : w'.cell? ⟨b20, 2, none⟩ = some (.int .i64 x.t) := ((HX.out w' hw).1).at' 2
                  have q2 : w'.cell? ⟨b20, 3, none⟩ = some (.int .i64 x.r) := ((HX.out w' hw).1).at' 3
                  have q3 : w'.cell? ⟨b20, 4, none⟩ = some (.int .i64 x.b) := ((HX.out w' hw).1).at' 4
                  go_simp
                  exact ⟨rfl, rfl⟩
                · intro gg w' hw hk
                  go_simp
                  exact Hold.stays_call (rto_any x.l x.t x.r x.b w')
                · intro gg w' hw hk
                  go_simp
                  exact ⟨rfl, rfl⟩
                · intro gg w' hw hk
                  have q0 : w'.cell? ⟨b13, 3, none⟩ = some (.slice (some ad) nf cF) := ((HX.out w' hw).2.2).at' 3
                  go_simp
                  exact ⟨rfl, rfl⟩
                · intro gg w' hw hk
                  go_simp
                  exact ⟨rfl, rfl⟩
                · intro gg w' hw hk
                  go_simp
                  exact ⟨rfl, rfl⟩
                · intro gg w' hw hk
                  go_simp
                  exact ⟨rfl, rfl⟩
                · intro gg w' hw hk
                  have q0 : w'.cell? ⟨(ad.add (i * 5)).block, (ad.add (i * 5)).off + 1, none⟩ = some (.int .i64 x.l) := ((HX.out w' hw).2.1).2.1
                  have q1 : w'.cell? ⟨(ad.add (i * 5)).block, (ad.add (i * 5)).off + 2, none⟩ = some (.int .i64 x.t) := ((HX.out w' hw).2.1).2.2.1
                  have q2 : w'.cell? ⟨(ad.add (i * 5)).block, (ad.add (i * 5)).off + 3, none⟩ = some (.int .i64 x.r) := ((HX.out w' hw).2.1).2.2.2.1
                  have q3 : w'.cell? ⟨(ad.add (i * 5)).block, (ad.add (i * 5)).off + 4, none⟩ = some (.int .i64 x.b) := ((HX.out w' hw).2.1).2.2.2.2
                  go_simp
                  exact ⟨rfl, rfl⟩
                · intro gg w' hw hk
                  have q := eqArrB x.l x.t x.r x.b w'
                  go_simp
                  exact ⟨rfl, rfl⟩
                · intro gg w' hw hk
                  go_simp
                  exact ⟨rfl, rfl⟩
              intro gg w2 k2 hgg
              clear hgg
              simp only [Hold.fill, Hold.Leave.value]
              have K2 := Lib.hid (thru S1.out.1 k2)
              clear k2
              go_simp
              go_wp2_with fail
              go_roundw
              case rel => exact ⟨i + 1, by omega, by go_num, Lib.hid (thru I8.out K2.out)⟩
              case measure => simp [intOf]; omega
            · obtain rfl : i = nf := by omega
              go_wp2_with fail
              go_ret
              exact ⟨rfl, thru S8.out.2.1 (thru K8.out I8.out)⟩

theorem lays_any (hO : SpaceOk S) (hP : PlaceOk S) (A : Option Addr) (n c : Nat) (fs : List Fl) (f t y : Int) (AI : Option Addr) (ni ci : Nat) (its : List It) (w : World) (hn : n = fs.length) (hm : n ≤ 9223372036854775807) (hx : Floats w w.heap.size A fs) (hni : ni = its.length) (hmi : ni ≤ 9223372036854775807) (hci : ni ≤ ci) (hxi : Items w w.heap.size AI its) (hnil : A = none → c = 0) :
    Calls Tryz.prog 3 #[.slice A n c, .int .i64 f, .int .i64 t, .int .i64 y, .slice AI ni ci] w fun e w' => e = .returned (.bool true) ∧ Below w.heap.size w w' := by
  by_cases hv : okT fs f t y its = true
  · exact lays_yes hO hP A n c fs f t y AI ni ci its  w hn hm hx hni hmi hci hxi hnil hv
  · exact lays_few hO hP A n c fs f t y AI ni ci its  w hn hm hx hni hmi hci hxi (by simpa using hv)

end

end Go.Proofs.YtdibdfalahjmbaaGreat.Text
