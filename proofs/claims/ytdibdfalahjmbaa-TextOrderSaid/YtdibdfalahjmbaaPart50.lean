/- The law of the order in which items are laid. -/
import Derived.Test.YtdibdfalahjmbaaPart44
namespace Go.Proofs.Ytdibdfalahjmbaa.Text
open Go.RowKit Go.Sort Go.Proofs.Ytdibdfalahjmbaa.Rect Go.Proofs.Ytdibdfalahjmbaa.More Go.Proofs.Ytdibdfalahjmbaa.Shelf Go.Proofs.Ytdibdfalahjmbaa.Space Go.Proofs.Ytdibdfalahjmbaa.Place Go.Proofs.Ytdibdfalahjmbaa.Line
set_option linter.unusedVariables false
set_option linter.unusedSimpArgs false

section
variable {S : World → (Nat → Prop) → Addr → List Fl → Prop}

set_option maxRecDepth 100000 in
set_option maxHeartbeats 1000000 in
theorem order_few (hO : SpaceOk S) (hP : PlaceOk S) (A : Option Addr) (n c : Nat) (fs : List Fl) (f t y : Int) (AI : Option Addr) (ni ci : Nat) (its : List It) (w : World) (hn : n = fs.length) (hm : n ≤ 9223372036854775807) (hx : Floats w w.heap.size A fs) (hni : ni = its.length) (hmi : ni ≤ 9223372036854775807) (hci : ni ≤ ci) (hxi : Items w w.heap.size AI its) (hv : okT fs f t y its = false) :
    Calls Try.prog 5 #[.slice A n c, .int .i64 f, .int .i64 t, .int .i64 y, .slice AI ni ci] w fun e w' => e = .returned (.bool true) ∧ Below w.heap.size w w' := by
  have HBe := Lib.hid (tbegin_no A n c fs f t y AI ni ci its w hn hm hx hni hmi hxi hv)
  clear hn hm hx hni hmi hci hxi hv
  go_enter Try.func5, Try.ntmps5
  go_wp2_with (first
    | (go_at_call 8; refine HBe.out.mono ?_; rintro e w2 ⟨rfl, k2⟩; have K2 := Lib.hid k2; clear k2)
    | (go_at_call 9; refine (tspeaks hO hP w2).mono ?_; rintro e w3 ⟨rfl, k3⟩; have K3 := Lib.hid (thru K2.out k3); clear k3)
    | (go_at_call 9; refine (tspeaks hO hP w3).mono ?_; rintro e w9 ⟨rfl, k9⟩; have K9 := Lib.hid (thru K3.out k9); clear k9))
  go_ret
  exact ⟨rfl, K9.out⟩

set_option maxRecDepth 100000 in
set_option maxHeartbeats 4000000 in
theorem order_yes (hO : SpaceOk S) (hP : PlaceOk S) (A : Option Addr) (n c : Nat) (fs : List Fl) (f t y : Int) (AI : Option Addr) (ni ci : Nat) (its : List It) (w : World) (hn : n = fs.length) (hm : n ≤ 9223372036854775807) (hx : Floats w w.heap.size A fs) (hni : ni = its.length) (hmi : ni ≤ 9223372036854775807) (hci : ni ≤ ci) (hxi : Items w w.heap.size AI its) (hv : okT fs f t y its = true) :
    Calls Try.prog 5 #[.slice A n c, .int .i64 f, .int .i64 t, .int .i64 y, .slice AI ni ci] w fun e w' => e = .returned (.bool true) ∧ Below w.heap.size w w' := by
  have ho := okT_so hv
  have HBe := Lib.hid (tbegin_any hO A n c fs f t y AI ni ci its w hn hx hni hxi hv)
  have HOf := Lib.hid (fun w1 (k : Below w.heap.size w w1) => tof_any AI ni ci its w1 hni (by have := ho.n2; omega) (hxi.thru k))
  have HLy := Lib.hid (fun w1 F p A0 c0 (hs : S w1 F p fs) (hx : MineE encI 61 w1 0 A0 its.length c0 its) (hxF : ∀ j, blk A0 = some j → ¬ F j) => lay_law hO hP ho ho.ri ho.n2 w1 F p A0 c0 hs hx hxF)
  have HFc := Lib.hid (facts_of ho.lo ho.ri ho.n2)
  have HI := Lib.hid (⟨hni, hxi, ho.n2⟩ : ni = its.length ∧ Items w w.heap.size AI its ∧ its.length ≤ 30)
  rw [← hni] at HLy
  obtain ⟨D, hD⟩ : ∃ D, layD fs f t y its = D := ⟨_, rfl⟩
  rw [hD] at HLy HFc
  clear hn hm hx hni hmi hci hxi hv ho hD
  go_enter Try.func5, Try.ntmps5
  go_upto_region 5 with (first
    | (go_at_call 8; refine HBe.out.mono ?_; rintro e w2 ⟨⟨p, F, rfl, hL, hF⟩, k2⟩; have S2 := Lib.hid (⟨hL, k2, hF⟩ : S w2 F p fs ∧ Below w.heap.size w w2 ∧ ∀ k, F k → w.heap.size ≤ k); clear hL hF k2)
    | (go_at_call 9; refine (tspeaks hO hP w2).mono ?_; rintro e w3 ⟨rfl, k3⟩; have S3 := Lib.hid (⟨thruS hO S2.out.1 k3, thru S2.out.2.1 k3, S2.out.2.2⟩ : S w3 F p fs ∧ Below w.heap.size w w3 ∧ ∀ k, F k → w.heap.size ≤ k); clear k3)
    | (go_at_call 11; refine (HOf.out w3 S3.out.2.1).mono ?_; rintro e w4 ⟨⟨A4, c4, rfl, hM⟩, k4⟩; have S4 := Lib.hid (⟨thruS hO S3.out.1 k4, thru S3.out.2.1 k4, MineE.mono hM (Nat.zero_le _), fun j e x => by have := (hM.lt j e).1; have := hO.lt _ _ _ _ S3.out.1 j x; omega⟩ : S w4 F p fs ∧ Below w.heap.size w w4 ∧ MineE encI 61 w4 0 A4 ni c4 its ∧ ∀ j, blk A4 = some j → ¬ F j); clear hM k4)
    | (go_at_call 10; refine (HLy.out w4 F p A4 c4 S4.out.1 S4.out.2.2.1 S4.out.2.2.2).mono ?_; rintro e w5 ⟨⟨bx, A3, c3, F5, rfl, hQ⟩, k5⟩; have S5 := Lib.hid (⟨hQ, S4.out.2.1.trans (k5.below S4.out.2.1.size S3.out.2.2)⟩ : LaidOut S w4.heap.size w5 F F5 p bx A3 c3 ni D ∧ Below w.heap.size w w5); clear hQ k5))
  generalize hW : World.alloc w5 _ = W
  obtain ⟨b, hb⟩ : ∃ b, w5.heap.size = b := ⟨_, rfl⟩
  have k6 : Below w5.heap.size w5 W := by rw [← hW]; exact ba1 _ _
  have z6 : RowAt W b [.slice (some ⟨bx, 0, none⟩) ni ni, .slice A3 D.out.length c3, .int .i64 D.m.y] := by rw [← hW, ← hb]; exact RowAt.new w5 _ _
  rw [hb]
  have S6 := Lib.hid (⟨⟨z6, (S5.out.1.bo.below k6).mono (Nat.zero_le _), (S5.out.1.li.below k6).mono (Nat.zero_le _)⟩, thru S5.out.2 k6⟩ : Has W b bx A3 c3 ni D ∧ Below w.heap.size w W)
  clear hW hb k6 z6 S5 S4 S3 S2 HBe HOf HLy
  obtain ⟨c0, c1, c2⟩ := S6.out.1.cells
  have HAt := Lib.hid (⟨HFc.out.T, HFc.out.wait, HFc.out.row⟩ : Told fs f t y its its.length D ∧ D.wait = [] ∧ D.row = [])
  have hmany : (atomsK its its.length).length ≤ 30 := by have := atomsK_len its its.length; have := HI.out.2.2; omega
  have HMa := Lib.hid hmany
  clear hmany
  go_wp2_with fail
  go_loopw [13, 14, 15, 53] (fun t1 t2 t3 i wr => ∃ k : Nat, k ≤ ni ∧ i = .int .i64 (k : Int) ∧ t1 = .int .i64 (topAt D.box y (atomsK its k)) ∧ t2 = .int .i64 (topAt D.box y (floatsK its k)) ∧ t3 = .int .i64 ((atomsK its k).length : Int) ∧ Hid (Below W.heap.size W wr)) (fun _ _ _ i _ => ni - (intOf i).toNat)
  case atStart => exact ⟨0, Nat.zero_le _, rfl, rfl, rfl, rfl, Lib.hid (Below.refl _ _)⟩
  case round =>
    obtain ⟨k, hk, rfl, rfl, rfl, rfl, H⟩ := hrel
    clear c0 c1 c2
    have hasr := S6.out.1.below H.out
    obtain ⟨c0, c1, c2⟩ := hasr.cells
    by_cases hlt : k < ni
    · have hki : (k : Int) < (ni : Int) := by omega
      have hk0 : ¬ (k : Int) < 0 := by omega
      have hkl : k < its.length := by have := HI.out.1; omega
      have hwk : IntKind.i64.wrap ((k : Int) + 1) = (k : Int) + 1 := by have := HI.out.2.2; exact IntWalk.i64_in _ (by omega)
      have hlk := atomsK_len its k
      have hwm : IntKind.i64.wrap (((atomsK its k).length : Int) + 1) = ((atomsK its k).length : Int) + 1 := by have := HI.out.2.2; exact IntWalk.i64_in _ (by omega)
      obtain ⟨x, hz⟩ : ∃ x, its[k]? = some x := ⟨_, List.getElem?_eq_getElem hkl⟩
      have hxk : itAt its k = x := itAt_is hz
      obtain ⟨ad, rfl, -, d0, d1, d2, d3⟩ := (HI.out.2.1.thru (thru S6.out.2 H.out)) k x hz
      go_upto_region 11 with fail
      generalize hW1 : World.alloc wr _ = W1
      obtain ⟨b17, hb17⟩ : ∃ b17, wr.heap.size = b17 := ⟨_, rfl⟩
      have k1 : Below wr.heap.size wr W1 := by rw [← hW1]; exact ba1 _ _
      have z17 : RowAt W1 b17 (irow x) := by rw [← hW1, ← hb17]; exact RowAt.new wr _ _
      try rw [hb17]
      have hasr1 := hasr.below k1
      clear c0 c1 c2 d0 d1 d2 d3 hW1 hb17
      obtain ⟨c0, c1, c2⟩ := hasr1.cells
      obtain ⟨e0, e1, e2, e3⟩ := hasr1.box hlt
      go_upto_region 12 with fail
      generalize hW2 : World.alloc W1 _ = W2
      obtain ⟨b18, hb18⟩ : ∃ b18, W1.heap.size = b18 := ⟨_, rfl⟩
      have k2 : Below W1.heap.size W1 W2 := by rw [← hW2]; exact ba1 _ _
      have z18 : RowAt W2 b18 [.int .i64 (bxAt D.box k).l, .int .i64 (bxAt D.box k).t, .int .i64 (bxAt D.box k).r, .int .i64 (bxAt D.box k).b] := by rw [← hW2, ← hb18]; exact RowAt.new W1 _ _
      try rw [hb18]
      have hk12 := thru k1 k2
      have i0 : W2.cell? ⟨b17, 0, none⟩ = some (.int .i64 x.sd) := (z17.below (by simp) k2).at' 0
      have r1 : W2.cell? ⟨b18, 1, none⟩ = some (.int .i64 (bxAt D.box k).t) := z18.at' 1
      have H2 := Lib.hid (thru H.out hk12)
      clear c0 c1 c2 e0 e1 e2 e3 hW2 hb18 k1 k2 z17 z18 hasr1 hk12
      by_cases hs : x.sd = 0
      · have hxs : (itAt its k).sd = 0 := by rw [hxk]; exact hs
        have hin : k ∈ atomsK its its.length := List.mem_filter.2 ⟨List.mem_range.2 hkl, by unfold isA; exact decide_eq_true hxs⟩
        have g1 := HAt.out.1.atoms_low HAt.out.2.2 hin
        have g2 : topAt D.box y (atomsK its k) ≤ (bxAt D.box k).t := topAt_le g1 fun i hi => HAt.out.1.atoms_rise HAt.out.2.2 (List.mem_filter.2 ⟨List.mem_range.2 (by have := (atomsK_mem hi).1; omega), (List.mem_filter.1 hi).2⟩) hin (atomsK_mem hi).1
        have h1 : ¬ (bxAt D.box k).t < y := by omega
        have h2 : ¬ (bxAt D.box k).t < topAt D.box y (atomsK its k) := by omega
        have hb0 : (x.sd != 0) = false := by rw [hs]; rfl
        have HT := Lib.hid (⟨by rw [atomsK_yes hxs, topAt_snoc], by rw [floatsK_no hxs], by rw [atomsK_yes hxs, List.length_append]; simp⟩ : topAt D.box y (atomsK its (k + 1)) = (bxAt D.box k).t ∧ floatsK its (k + 1) = floatsK its k ∧ ((atomsK its (k + 1)).length : Int) = ((atomsK its k).length : Int) + 1)
        clear hz hxk hs hxs hin g1 g2 hasr hkl hlk
        go_wp2_with fail
        go_roundw
        case rel => exact ⟨k + 1, by omega, by go_num, by rw [HT.out.1], by rw [HT.out.2.1], by rw [HT.out.2.2], H2⟩
        case measure => simp [intOf]; omega
      · have hxs : (itAt its k).sd ≠ 0 := by rw [hxk]; exact hs
        have hin : k ∈ floatsK its its.length := List.mem_filter.2 ⟨List.mem_range.2 hkl, by show (!isA its k) = true; rw [show isA its k = false from decide_eq_false hxs]; rfl⟩
        have g1 := HAt.out.1.floats_low HAt.out.2.1 hin
        have g2 : topAt D.box y (floatsK its k) ≤ (bxAt D.box k).t := topAt_le g1 fun i hi => HAt.out.1.floats_rise HAt.out.2.1 (List.mem_filter.2 ⟨List.mem_range.2 (by have := (floatsK_mem hi).1; omega), (List.mem_filter.1 hi).2⟩) hin (floatsK_mem hi).1
        have h1 : ¬ (bxAt D.box k).t < y := by omega
        have h2 : ¬ (bxAt D.box k).t < topAt D.box y (floatsK its k) := by omega
        have hb0 : (x.sd != 0) = true := by simp [hs]
        have HT := Lib.hid (⟨by rw [floatsK_yes hxs, topAt_snoc], by rw [atomsK_no hxs]⟩ : topAt D.box y (floatsK its (k + 1)) = (bxAt D.box k).t ∧ atomsK its (k + 1) = atomsK its k)
        clear hz hxk hs hxs hin g1 g2 hasr hkl hlk
        go_wp2_with fail
        go_roundw
        case rel => exact ⟨k + 1, by omega, by go_num, by rw [HT.out.2], by rw [HT.out.1], by rw [HT.out.2], H2⟩
        case measure => simp [intOf]; omega
    · obtain rfl : k = ni := by omega
      obtain ⟨wo, hwo⟩ : ∃ x, x = wr := ⟨_, rfl⟩
      subst hwo
      have hkn := HI.out.1
      obtain ⟨mm, hmm⟩ : ∃ mm : Nat, (atomsK its k).length = mm := ⟨_, rfl⟩
      rw [hmm]
      have hat := HFc.out.atoms
      have hfl : mm = (D.out.flatMap fun e => e.2).length := by rw [← hmm, hkn, hat]
      have hmb : mm ≤ 30 := by rw [← hmm, hkn]; exact HMa.out
      have HL := Lib.hid (⟨hfl, hmb, by rw [hfl] at hmb; exact Nat.le_trans (flat_len fun e he => (HFc.out.T.ln e he).2) hmb⟩ : mm = (D.out.flatMap fun e => e.2).length ∧ mm ≤ 30 ∧ D.out.length ≤ 30)
      have hasK := Lib.hid hasr
      have HC := Lib.hid (⟨chain_end HFc.out.T.ch, fun j e (hj : D.out[j]? = some e) => chain_at HFc.out.T.ch hj⟩ : botAt y D.out D.out.length = D.m.y ∧ ∀ j e, D.out[j]? = some e → botAt y D.out j ≤ e.1.top ∧ e.1.top ≤ e.1.b)
      clear hmm hat hfl hmb hasr hkn
      go_wp2_with fail
      go_loopw [15, 19, 89] (fun t3 t4 i wr => ∃ j : Nat, j ≤ D.out.length ∧ i = .int .i64 (j : Int) ∧ t4 = .int .i64 (botAt y D.out j) ∧ t3 = .int .i64 ((mm : Int) - (((D.out.take j).flatMap fun e => e.2).length : Int)) ∧ Hid (Below wo.heap.size wo wr)) (fun _ _ i _ => D.out.length - (intOf i).toNat)
      case atStart => exact ⟨0, Nat.zero_le _, rfl, rfl, by simp, Lib.hid (Below.refl _ _)⟩
      case round =>
        obtain ⟨j, hj, rfl, rfl, rfl, G⟩ := hrel
        clear c0 c1 c2
        have hasr := hasK.out.below G.out
        obtain ⟨c0, c1, c2⟩ := hasr.cells
        by_cases hlj : j < D.out.length
        · have hji : (j : Int) < (D.out.length : Int) := by omega
          have hj0 : ¬ (j : Int) < 0 := by omega
          have hwj : IntKind.i64.wrap ((j : Int) + 1) = (j : Int) + 1 := by have := HL.out.2.2; exact IntWalk.i64_in _ (by omega)
          obtain ⟨e, he⟩ : ∃ e, D.out[j]? = some e := ⟨_, List.getElem?_eq_getElem hlj⟩
          obtain ⟨g, eA, l0, l1, l2, l3, l4, l5⟩ := hasr.line he
          subst eA
          have hch := HC.out.2 j e he
          have h1 : ¬ (lnOf e.1).t < botAt y D.out j := by show ¬ e.1.top < _; omega
          have hln := (HFc.out.T.ln e (List.mem_of_getElem? he)).1
          have ha : (lnOf e.1).a = (e.2.length : Int) := by show ((e.1.az.length : Nat) : Int) = _; rw [hln, List.length_map]
          rw [ha] at l4
          have hft := flat_take he
          have hmono : ((D.out.take (j + 1)).flatMap fun e => e.2).length ≤ (D.out.flatMap fun e => e.2).length := by
            have : D.out.flatMap (fun e => e.2) = (D.out.take (j + 1)).flatMap (fun e => e.2) ++ (D.out.drop (j + 1)).flatMap (fun e => e.2) := by rw [← List.flatMap_append, List.take_append_drop]
            rw [this, List.length_append]; omega
          obtain ⟨q, hq⟩ : ∃ q : Nat, ((D.out.take j).flatMap fun e => e.2).length = q := ⟨_, rfl⟩
          rw [hq] at hft
          rw [hq]
          have hsub : IntKind.i64.wrap ((mm : Int) - (q : Int) - (e.2.length : Int)) = (mm : Int) - (q : Int) - (e.2.length : Int) := by have := HL.out; exact IntWalk.i64_in _ (by omega)
          have HT := Lib.hid (⟨botAt_next he, by rw [hft]; push_cast; omega⟩ : botAt y D.out (j + 1) = e.1.b ∧ (mm : Int) - (((D.out.take (j + 1)).flatMap fun e => e.2).length : Int) = (mm : Int) - (q : Int) - (e.2.length : Int))
          have HB := Lib.hid (show (lnOf e.1).b = e.1.b from rfl)
          clear he hch hln ha hft hmono hq hasr
          go_wp2_with fail
          go_roundw
          case rel => exact ⟨j + 1, by omega, by go_num, by rw [HT.out.1, ← HB.out], by rw [HT.out.2], Lib.hid (thru G.out (ba1 wr _))⟩
          case measure => simp [intOf]; omega
        · obtain rfl : j = D.out.length := by omega
          have h1 : (mm : Int) - (((D.out.take D.out.length).flatMap fun e => e.2).length : Int) = 0 := by rw [List.take_length]; have := HL.out.1; omega
          rw [h1]
          have h2 := HC.out.1
          rw [h2]
          have hbq : (D.m.y == D.m.y) = true := by simp
          clear h1 h2
          go_wp2_with fail
          go_ret
          exact ⟨rfl, thru S6.out.2 (thru H.out G.out)⟩

theorem order_any (hO : SpaceOk S) (hP : PlaceOk S) (A : Option Addr) (n c : Nat) (fs : List Fl) (f t y : Int) (AI : Option Addr) (ni ci : Nat) (its : List It) (w : World) (hn : n = fs.length) (hm : n ≤ 9223372036854775807) (hx : Floats w w.heap.size A fs) (hni : ni = its.length) (hmi : ni ≤ 9223372036854775807) (hci : ni ≤ ci) (hxi : Items w w.heap.size AI its) :
    Calls Try.prog 5 #[.slice A n c, .int .i64 f, .int .i64 t, .int .i64 y, .slice AI ni ci] w fun e w' => e = .returned (.bool true) ∧ Below w.heap.size w w' := by
  by_cases hv : okT fs f t y its = true
  · exact order_yes hO hP A n c fs f t y AI ni ci its  w hn hm hx hni hmi hci hxi hv
  · exact order_few hO hP A n c fs f t y AI ni ci its  w hn hm hx hni hmi hci hxi (by simpa using hv)

end

end Go.Proofs.Ytdibdfalahjmbaa.Text
