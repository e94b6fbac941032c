/- The law of what stands apart: floats from lines, and from one another; atoms side by side in their lines. -/
import Derived.Test.YtdibdfalahjmbaaPart45
namespace Go.Proofs.Ytdibdfalahjmbaa.Text
open Go.RowKit Go.Sort Go.Proofs.Ytdibdfalahjmbaa.Rect Go.Proofs.Ytdibdfalahjmbaa.More Go.Proofs.Ytdibdfalahjmbaa.Shelf Go.Proofs.Ytdibdfalahjmbaa.Space Go.Proofs.Ytdibdfalahjmbaa.Place Go.Proofs.Ytdibdfalahjmbaa.Line
set_option linter.unusedVariables false
set_option linter.unusedSimpArgs false

section
variable {S : World → (Nat → Prop) → Addr → List Fl → Prop}

theorem meetB_comm (a b : Bx) : meetB a b = meetB b a := by
  unfold meetB
  rw [Int.max_comm a.l, Int.min_comm a.r, Int.max_comm a.t, Int.min_comm a.b]
/-- A float's cells. -/
theorem fl_cells {T : TypeId} {w : World} {B n c k : Nat} {A : Option Addr} {xs : List Fl} (h : MineE encF T w B A n c xs) {x : Fl} (hk : xs[k]? = some x) : ∃ g, A = some ⟨g, 0, none⟩ ∧ w.cell? ⟨g, k * 5, none⟩ = some (.int .i64 x.s) ∧ w.cell? ⟨g, k * 5 + 1, none⟩ = some (.int .i64 x.l) ∧ w.cell? ⟨g, k * 5 + 2, none⟩ = some (.int .i64 x.t) ∧ w.cell? ⟨g, k * 5 + 3, none⟩ = some (.int .i64 x.r) ∧ w.cell? ⟨g, k * 5 + 4, none⟩ = some (.int .i64 x.b) := by
  have hl := (List.getElem?_eq_some_iff.1 hk).1
  rw [h.len] at hl
  obtain ⟨g, e, -⟩ := h.form (by omega)
  rw [e] at h
  exact ⟨g, e, h.at k x hk 0 (by show 0 < 5; omega), h.at k x hk 1 (by show 1 < 5; omega), h.at k x hk 2 (by show 2 < 5; omega), h.at k x hk 3 (by show 3 < 5; omega), h.at k x hk 4 (by show 4 < 5; omega)⟩
/-- What the items' walk keeps of their boxes. -/
theorem Facts.size {fs : List Fl} {f t y : Int} {its : List It} {s : Ly} (h : Facts fs f t y its s) {k : Nat} (hk : k < its.length) : (bxAt s.box k).r - (bxAt s.box k).l = (itAt its k).wd ∧ (bxAt s.box k).b - (bxAt s.box k).t = (itAt its k).ht := by
  by_cases h0 : (itAt its k).sd = 0
  · have hin : k ∈ atomsK its its.length := List.mem_filter.2 ⟨List.mem_range.2 hk, by unfold isA; exact decide_eq_true h0⟩
    rw [h.atoms] at hin
    obtain ⟨e, he, hi⟩ := List.mem_flatMap.1 hin
    obtain ⟨q, hq⟩ := List.getElem?_of_mem hi
    have := h.T.row he hq
    exact ⟨this.2.2.2.1, this.2.2.2.2⟩
  · exact h.sz k hk h0 (by rw [h.wait]; exact List.not_mem_nil)
set_option maxRecDepth 100000 in
set_option maxHeartbeats 1000000 in
theorem apart_few (hO : SpaceOk S) (hP : PlaceOk S) (A : Option Addr) (n c : Nat) (fs : List Fl) (f t y : Int) (AI : Option Addr) (ni ci : Nat) (its : List It) (w : World) (hn : n = fs.length) (hm : n ≤ 9223372036854775807) (hx : Floats w w.heap.size A fs) (hni : ni = its.length) (hmi : ni ≤ 9223372036854775807) (hci : ni ≤ ci) (hxi : Items w w.heap.size AI its) (hv : okT fs f t y its = false) :
    Calls Try.prog 3 #[.slice A n c, .int .i64 f, .int .i64 t, .int .i64 y, .slice AI ni ci] w fun e w' => e = .returned (.bool true) ∧ Below w.heap.size w w' := by
  have HBe := Lib.hid (tbegin_no A n c fs f t y AI ni ci its w hn hm hx hni hmi hxi hv)
  clear hn hm hx hni hmi hci hxi hv
  go_enter Try.func3, Try.ntmps3
  go_wp2_with (first
    | (go_at_call 8; refine HBe.out.mono ?_; rintro e w2 ⟨rfl, k2⟩; have K2 := Lib.hid k2; clear k2)
    | (go_at_call 9; refine (tspeaks hO hP w2).mono ?_; rintro e w3 ⟨rfl, k3⟩; have K3 := Lib.hid (thru K2.out k3); clear k3)
    | (go_at_call 9; refine (tspeaks hO hP w3).mono ?_; rintro e w9 ⟨rfl, k9⟩; have K9 := Lib.hid (thru K3.out k9); clear k9))
  go_ret
  exact ⟨rfl, K9.out⟩

set_option maxRecDepth 100000 in
set_option maxHeartbeats 8000000 in
theorem apart_yes (hO : SpaceOk S) (hP : PlaceOk S) (A : Option Addr) (n c : Nat) (fs : List Fl) (f t y : Int) (AI : Option Addr) (ni ci : Nat) (its : List It) (w : World) (hn : n = fs.length) (hm : n ≤ 9223372036854775807) (hx : Floats w w.heap.size A fs) (hni : ni = its.length) (hmi : ni ≤ 9223372036854775807) (hci : ni ≤ ci) (hxi : Items w w.heap.size AI its) (hv : okT fs f t y its = true) :
    Calls Try.prog 3 #[.slice A n c, .int .i64 f, .int .i64 t, .int .i64 y, .slice AI ni ci] w fun e w' => e = .returned (.bool true) ∧ Below w.heap.size w w' := by
  have ho := okT_so hv
  have HBe := Lib.hid (tbegin_any hO A n c fs f t y AI ni ci its w hn hx hni hxi hv)
  have HOf := Lib.hid (fun w1 (k : Below w.heap.size w w1) => tof_any AI ni ci its w1 hni (by have := ho.n2; omega) (hxi.thru k))
  have HLy := Lib.hid (fun w1 F p A0 c0 (hs : S w1 F p fs) (hx : MineE encI 61 w1 0 A0 its.length c0 its) (hxF : ∀ j, blk A0 = some j → ¬ F j) => lay_law hO hP ho ho.ri ho.n2 w1 F p A0 c0 hs hx hxF)
  have HFc := Lib.hid (facts_of ho.lo ho.ri ho.n2)
  have HI := Lib.hid (⟨hni, hxi, ho.n2, ho.ri⟩ : ni = its.length ∧ Items w w.heap.size AI its ∧ its.length ≤ 30 ∧ ∀ x ∈ its, RightI x)
  rw [← hni] at HLy
  obtain ⟨D, hD⟩ : ∃ D, layD fs f t y its = D := ⟨_, rfl⟩
  rw [hD] at HLy HFc
  have hall := HFc.out.T.floats_all HFc.out.wait
  have hlen : n ≤ D.m.fs.length ∧ D.m.fs.length ≤ 42 := by
    rw [hall, List.length_append, List.length_map, ← hn]
    have := floatsK_len its its.length
    have := ho.n1
    have := ho.n2
    omega
  have HLn := Lib.hid (⟨hlen.1, hlen.2, hn⟩ : n ≤ D.m.fs.length ∧ D.m.fs.length ≤ 42 ∧ n = fs.length)
  have HNr := Lib.hid (near49_near (nearZ_49 HFc.out.lo.fl (by have := ho.n2; omega)))
  clear hn hm hx hni hmi hci hxi hv ho hD hall hlen
  go_enter Try.func3, Try.ntmps3
  go_upto_region 5 with (first
    | (go_at_call 8; refine HBe.out.mono ?_; rintro e w2 ⟨⟨p, F, rfl, hL, hF⟩, k2⟩; have S2 := Lib.hid (⟨hL, k2, hF⟩ : S w2 F p fs ∧ Below w.heap.size w w2 ∧ ∀ k, F k → w.heap.size ≤ k); clear hL hF k2)
    | (go_at_call 9; refine (tspeaks hO hP w2).mono ?_; rintro e w3 ⟨rfl, k3⟩; have S3 := Lib.hid (⟨thruS hO S2.out.1 k3, thru S2.out.2.1 k3, S2.out.2.2⟩ : S w3 F p fs ∧ Below w.heap.size w w3 ∧ ∀ k, F k → w.heap.size ≤ k); clear k3)
    | (go_at_call 11; refine (HOf.out w3 S3.out.2.1).mono ?_; rintro e w4 ⟨⟨A4, c4, rfl, hM⟩, k4⟩; have S4 := Lib.hid (⟨thruS hO S3.out.1 k4, thru S3.out.2.1 k4, MineE.mono hM (Nat.zero_le _), fun j e x => by have := (hM.lt j e).1; have := hO.lt _ _ _ _ S3.out.1 j x; omega⟩ : S w4 F p fs ∧ Below w.heap.size w w4 ∧ MineE encI 61 w4 0 A4 ni c4 its ∧ ∀ j, blk A4 = some j → ¬ F j); clear hM k4)
    | (go_at_call 10; refine (HLy.out w4 F p A4 c4 S4.out.1 S4.out.2.2.1 S4.out.2.2.2).mono ?_; rintro e w5 ⟨⟨bx, A3, c3, F5, rfl, hQ⟩, k5⟩; have S5 := Lib.hid (⟨hQ, S4.out.2.1.trans (k5.below S4.out.2.1.size S3.out.2.2)⟩ : LaidOut S w4.heap.size w5 F F5 p bx A3 c3 ni D ∧ Below w.heap.size w w5); clear hQ k5))
  generalize hW : World.alloc w5 _ = V
  obtain ⟨b, hb⟩ : ∃ b, w5.heap.size = b := ⟨_, rfl⟩
  have k6 : Below w5.heap.size w5 V := by rw [← hW]; exact ba1 _ _
  have z6 : RowAt V b [.slice (some ⟨bx, 0, none⟩) ni ni, .slice A3 D.out.length c3, .int .i64 D.m.y] := by rw [← hW, ← hb]; exact RowAt.new w5 _ _
  rw [hb]
  have S7 := Lib.hid (⟨⟨z6, (S5.out.1.bo.below k6).mono (Nat.zero_le _), (S5.out.1.li.below k6).mono (Nat.zero_le _)⟩, thru S5.out.2 k6, thruS hO S5.out.1.sp k6⟩ : Has V b bx A3 c3 ni D ∧ Below w.heap.size w V ∧ S V F5 p D.m.fs)
  clear hW hb k6 z6 S5 S4 S3 S2 HBe HOf HLy
  have HFl := Lib.hid (hO.floats V F5 p D.m.fs S7.out.2.2 HNr.out)
  obtain ⟨m8, hm8⟩ : ∃ m8, D.m.fs.length = m8 := ⟨_, rfl⟩
  rw [hm8] at HFl HLn
  have HM8 := Lib.hid hm8
  clear hm8
  go_upto_region 6 with (first
    | (go_at_call 12; refine HFl.out.mono ?_; rintro e W ⟨⟨A8, c8, rfl, hM⟩, k8⟩; have S6 := Lib.hid (⟨S7.out.1.below k8, thru S7.out.2.1 k8, hM.mono (Nat.zero_le _)⟩ : Has W b bx A3 c3 ni D ∧ Below w.heap.size w W ∧ MineE encF 43 W 0 A8 m8 c8 D.m.fs); clear hM k8))
  clear S7 HFl
  obtain ⟨c0, c1, c2⟩ := S6.out.1.cells
  have hl8 : ¬ (m8 : Int) < (n : Int) := by have := HLn.out.1; omega
  have hol : D.out.length ≤ 30 := by
    have h1 := flat_len fun e he => (HFc.out.T.ln e he).2
    rw [← HFc.out.atoms] at h1
    have := atomsK_len its its.length
    have := HI.out.2.2.1
    omega
  have HOl := Lib.hid hol
  clear hol
  go_wp2_with fail
  -- no float meets a line
  go_loopw [65] (fun i wr => ∃ j : Nat, j ≤ D.out.length ∧ i = .int .i64 (j : Int) ∧ Hid (Below W.heap.size W wr)) (fun i _ => D.out.length - (intOf i).toNat)
  case atStart => exact ⟨0, Nat.zero_le _, rfl, Lib.hid (Below.refl _ _)⟩
  case round =>
    obtain ⟨j, hj, rfl, G⟩ := hrel
    clear c0 c1 c2
    have hasr := S6.out.1.below G.out
    obtain ⟨c0, c1, c2⟩ := hasr.cells
    by_cases hlj : j < D.out.length
    · have hji : (j : Int) < (D.out.length : Int) := by omega
      have hj0 : ¬ (j : Int) < 0 := by omega
      have hwj : IntKind.i64.wrap ((j : Int) + 1) = (j : Int) + 1 := by have := HOl.out; exact IntWalk.i64_in _ (by omega)
      obtain ⟨e, he⟩ : ∃ e, D.out[j]? = some e := ⟨_, List.getElem?_eq_getElem hlj⟩
      obtain ⟨g, eA, l0, l1, l2, l3, l4, l5⟩ := hasr.line he
      subst eA
      have HMe := Lib.hid (HFc.out.T.ap e (List.mem_of_getElem? he))
      have HX : Hid ((lnOf e.1).l = (lineB e.1).l ∧ (lnOf e.1).t = (lineB e.1).t ∧ (lnOf e.1).r = (lineB e.1).r ∧ (lnOf e.1).b = (lineB e.1).b) := Lib.hid ⟨rfl, rfl, rfl, rfl⟩
      obtain ⟨X, hX⟩ : ∃ X, lnOf e.1 = X := ⟨_, rfl⟩
      rw [hX] at l0 l1 l2 l3 l4 l5 HX
      clear he hX hasr
      go_upto_region 11 with fail
      generalize hW1 : World.alloc wr _ = W1
      obtain ⟨b15, hb15⟩ : ∃ b15, wr.heap.size = b15 := ⟨_, rfl⟩
      have k1 : Below wr.heap.size wr W1 := by rw [← hW1]; exact ba1 _ _
      have z15 : RowAt W1 b15 (lnrow X) := by rw [← hW1, ← hb15]; exact RowAt.new wr _ _
      try rw [hb15]
      have G1 := Lib.hid (⟨thru G.out k1, z15⟩ : Below W.heap.size W W1 ∧ RowAt W1 b15 (lnrow X))
      clear hW1 hb15 k1 z15 l0 l1 l2 l3 l4 l5 c0 c1 c2
      have hd : (Value.bool (decide ((j : Int) < (D.out.length : Int)))) = .bool true := by simp; omega
      go_wp2_with fail
      go_loopw [71] (fun i wq => ∃ m : Nat, m ≤ m8 ∧ i = .int .i64 (m : Int) ∧ Hid (Below W1.heap.size W1 wq)) (fun i _ => m8 - (intOf i).toNat)
      case atStart => exact ⟨0, Nat.zero_le _, rfl, Lib.hid (Below.refl _ _)⟩
      case round =>
        obtain ⟨m, hm, rfl, G2⟩ := hrel
        by_cases hlm : m < m8
        · have hmi : (m : Int) < (m8 : Int) := by omega
          have hm0 : ¬ (m : Int) < 0 := by omega
          have hwm : IntKind.i64.wrap ((m : Int) + 1) = (m : Int) + 1 := by have := HLn.out.2.1; exact IntWalk.i64_in _ (by omega)
          obtain ⟨o, hg⟩ : ∃ o, D.m.fs[m]? = some o := ⟨_, List.getElem?_eq_getElem (by rw [HM8.out]; exact hlm)⟩
          obtain ⟨ga, eA, f0, f1, f2, f3, f4⟩ := fl_cells (S6.out.2.2.below (thru G1.out.1 G2.out)) hg
          subst eA
          have hmt := HMe.out o (List.mem_of_getElem? hg)
          have HMt := Lib.hid (fun w1 => meet_is o.l o.t o.r o.b X.l X.t X.r X.b false (by rw [HX.out.1, HX.out.2.1, HX.out.2.2.1, HX.out.2.2.2]; exact hmt) w1)
          clear hg hmt
          go_upto_region 14 with fail
          generalize hW2 : World.alloc _ _ = W2
          obtain ⟨b17, hb17⟩ : ∃ b17, wr.heap.size = b17 := ⟨_, rfl⟩
          have k2 : Below wr.heap.size wr W2 := by rw [← hW2]; exact ba1 _ _
          have z17 : RowAt W2 b17 [.int .i64 o.s, .int .i64 o.l, .int .i64 o.t, .int .i64 o.r, .int .i64 o.b] := by rw [← hW2, ← hb17]; exact RowAt.new wr _ _
          try rw [hb17]
          have z15 := G1.out.2.below (by simp) (thru G2.out k2)
          have G3 := Lib.hid (thru G2.out k2)
          obtain ⟨x0, x1, x2, x3, -, -⟩ := lat_of z15
          have u1 : W2.cell? ⟨b17, 1, none⟩ = some (.int .i64 o.l) := z17.at' 1
          have u2 : W2.cell? ⟨b17, 2, none⟩ = some (.int .i64 o.t) := z17.at' 2
          have u3 : W2.cell? ⟨b17, 3, none⟩ = some (.int .i64 o.r) := z17.at' 3
          have u4 : W2.cell? ⟨b17, 4, none⟩ = some (.int .i64 o.b) := z17.at' 4
          clear hW2 hb17 k2 z17 z15 f0 f1 f2 f3 f4
          go_wp2_with (first
            | (go_at_call 13; refine (HMt.out W2).mono ?_; rintro e w3 ⟨rfl, k3⟩; have K3 := Lib.hid (thru G3.out k3); clear k3))
          go_roundw
          case rel => exact ⟨m + 1, by omega, by go_num, K3⟩
          case measure => simp [intOf]; omega
        · obtain rfl : m = m8 := by omega
          go_wp2_with fail
          go_roundw
          case rel => exact ⟨j + 1, by omega, by go_num, Lib.hid (thru G1.out.1 G2.out)⟩
          case measure => simp [intOf]; omega
    · obtain rfl : j = D.out.length := by omega
      have HV := Lib.hid (⟨hasr, thru S6.out.2.1 G.out, S6.out.2.2.below G.out⟩ : Has wr b bx A3 c3 ni D ∧ Below w.heap.size w wr ∧ MineE encF 43 wr 0 A8 m8 c8 D.m.fs)
      obtain ⟨V, hVV⟩ : ∃ x, x = wr := ⟨_, rfl⟩
      subst hVV
      clear hasr S6 G
      go_wp2_with fail
      -- no two floats meet
      go_loopw [18] (fun i wr => ∃ q : Nat, n ≤ q ∧ q ≤ m8 ∧ i = .int .i64 (q : Int) ∧ Hid (Below V.heap.size V wr)) (fun i _ => m8 - (intOf i).toNat)
      case atStart => exact ⟨n, Nat.le_refl _, HLn.out.1, rfl, Lib.hid (Below.refl _ _)⟩
      case round =>
        obtain ⟨q, hnq, hq, rfl, G⟩ := hrel
        by_cases hlq : q < m8
        · have hqi : (q : Int) < (m8 : Int) := by omega
          have hq0 : ¬ (q : Int) < 0 := by omega
          have hwq : IntKind.i64.wrap ((q : Int) + 1) = (q : Int) + 1 := by have := HLn.out.2.1; exact IntWalk.i64_in _ (by omega)
          have hdq : decide ((q : Int) < (m8 : Int)) = true := by simp; omega
          obtain ⟨o, ho⟩ : ∃ o, D.m.fs[q]? = some o := ⟨_, List.getElem?_eq_getElem (by rw [HM8.out]; exact hlq)⟩
          have HLd := Lib.hid (HFc.out.T.ld q o ho (by rw [← HLn.out.2.2]; exact hnq)).2
          have HOo := Lib.hid ho
          clear ho
          obtain ⟨Y, hYY⟩ : ∃ x, x = wr := ⟨_, rfl⟩
          subst hYY
          go_wp2_with fail
          go_loopw [91] (fun i wq => ∃ m : Nat, m ≤ q ∧ i = .int .i64 (m : Int) ∧ Hid (Below Y.heap.size Y wq)) (fun i _ => q - (intOf i).toNat)
          case atStart => exact ⟨0, Nat.zero_le _, rfl, Lib.hid (Below.refl _ _)⟩
          case round =>
            obtain ⟨m, hm, rfl, G2⟩ := hrel
            by_cases hlm : m < q
            · have hmi : (m : Int) < (q : Int) := by omega
              have hmi8 : (m : Int) < (m8 : Int) := by omega
              have hm0 : ¬ (m : Int) < 0 := by omega
              have hwm : IntKind.i64.wrap ((m : Int) + 1) = (m : Int) + 1 := by have := HLn.out.2.1; exact IntWalk.i64_in _ (by omega)
              obtain ⟨o2, hg⟩ : ∃ o2, D.m.fs[m]? = some o2 := ⟨_, List.getElem?_eq_getElem (by rw [HM8.out]; omega)⟩
              have hmt := (HLd.out m o2 hlm hg).2
              rw [meetB_comm] at hmt
              have HMt := Lib.hid (fun w1 => meet_is o.l o.t o.r o.b o2.l o2.t o2.r o2.b false hmt w1)
              have hV8 := HV.out.2.2
              obtain ⟨ga, eA, -⟩ := fl_cells hV8 HOo.out
              subst eA
              have HFa := Lib.hid (fun w' (i : Below wr.heap.size wr w') => show (w'.cell? ⟨ga, q * 5 + 1, none⟩ = some (.int .i64 o.l) ∧ w'.cell? ⟨ga, q * 5 + 2, none⟩ = some (.int .i64 o.t) ∧ w'.cell? ⟨ga, q * 5 + 3, none⟩ = some (.int .i64 o.r) ∧ w'.cell? ⟨ga, q * 5 + 4, none⟩ = some (.int .i64 o.b)) ∧ (w'.cell? ⟨ga, m * 5 + 1, none⟩ = some (.int .i64 o2.l) ∧ w'.cell? ⟨ga, m * 5 + 2, none⟩ = some (.int .i64 o2.t) ∧ w'.cell? ⟨ga, m * 5 + 3, none⟩ = some (.int .i64 o2.r) ∧ w'.cell? ⟨ga, m * 5 + 4, none⟩ = some (.int .i64 o2.b)) by
                have h8 := hV8.below (thru (thru G.out G2.out) i)
                obtain ⟨g1, e1, -, a1, a2, a3, a4⟩ := fl_cells h8 HOo.out
                obtain ⟨g2, e2, -, b1, b2, b3, b4⟩ := fl_cells h8 hg
                obtain rfl : ga = g1 := by injection e1 with e1; injection e1
                obtain rfl : ga = g2 := by injection e2 with e2; injection e2
                exact ⟨⟨a1, a2, a3, a4⟩, b1, b2, b3, b4⟩)
              clear hg hmt hV8
              go_upto_region 24 with fail
              refine HoldAll.wp_region_hold_all [.val (.slice (some ⟨ga, 0, none⟩) m8 c8), .val (.int .i64 (q : Int)), .val (.pointer (some ⟨ga, q * 5, none⟩)), .val (.pointer (some ⟨ga, q * 5 + 1, none⟩)), .val (.agg #[.int .i64 o.l, .int .i64 o.t, .int .i64 o.r, .int .i64 o.b]), .val (.slice (some ⟨ga, 0, none⟩) m8 c8), .val (.int .i64 (m : Int)), .val (.pointer (some ⟨ga, m * 5, none⟩)), .val (.pointer (some ⟨ga, m * 5 + 1, none⟩)), .val (.agg #[.int .i64 o2.l, .int .i64 o2.t, .int .i64 o2.r, .int .i64 o2.b]), .val (.bool false)] (by kernel_rfl) (by kernel_rfl) (by kernel_rfl) ?_ ?_
              · simp only [Hold.fill, Hold.Leave.value]
                refine ⟨?_, ?_, ?_, ?_, ?_, ?_, ?_, ?_, ?_, ?_, ?_, trivial⟩
                · intro gg w' hw hk
                  go_simp
                  exact ⟨rfl, rfl⟩
                · intro gg w' hw hk
                  go_simp
                  exact ⟨rfl, rfl⟩
                · intro gg w' hw hk
                  go_simp
                  exact ⟨rfl, rfl⟩
                · intro gg w' hw hk
                  go_simp
                  exact ⟨rfl, rfl⟩
                · intro gg w' hw hk
                  have q0 : w'.cell? ⟨ga, q * 5 + 1, none⟩ = some (.int .i64 o.l) := (HFa.out w' hw).1.1
                  have q1 : w'.cell? ⟨ga, q * 5 + 2, none⟩ = some (.int .i64 o.t) := (HFa.out w' hw).1.2.1
                  have q2 : w'.cell? ⟨ga, q * 5 + 3, none⟩ = some (.int .i64 o.r) := (HFa.out w' hw).1.2.2.1
                  have q3 : w'.cell? ⟨ga, q * 5 + 4, none⟩ = some (.int .i64 o.b) := (HFa.out w' hw).1.2.2.2
                  go_simp
                  exact ⟨rfl, rfl⟩
                · intro gg w' hw hk
                  go_simp
                  exact ⟨rfl, rfl⟩
                · intro gg w' hw hk
                  go_simp
                  exact ⟨rfl, rfl⟩
                · intro gg w' hw hk
                  go_simp
                  exact ⟨rfl, rfl⟩
                · intro gg w' hw hk
                  go_simp
                  exact ⟨rfl, rfl⟩
                · intro gg w' hw hk
                  have q0 : w'.cell? ⟨ga, m * 5 + 1, none⟩ = some (.int .i64 o2.l) := (HFa.out w' hw).2.1
                  have q1 : w'.cell? ⟨ga, m * 5 + 2, none⟩ = some (.int .i64 o2.t) := (HFa.out w' hw).2.2.1
                  have q2 : w'.cell? ⟨ga, m * 5 + 3, none⟩ = some (.int .i64 o2.r) := (HFa.out w' hw).2.2.2.1
                  have q3 : w'.cell? ⟨ga, m * 5 + 4, none⟩ = some (.int .i64 o2.b) := (HFa.out w' hw).2.2.2.2
                  go_simp
                  exact ⟨rfl, rfl⟩
                · intro gg w' hw hk
                  go_simp
                  exact Hold.stays_call (HMt.out w')
              intro gg w4 k4 hgg
              clear hgg
              simp only [Hold.fill, Hold.Leave.value]
              have G4 := Lib.hid (thru G2.out k4)
              clear k4 HFa HMt
              go_simp
              go_wp2_with fail
              go_roundw
              case rel => exact ⟨m + 1, by omega, by go_num, G4⟩
              case measure => simp [intOf]; omega
            · obtain rfl : m = q := by omega
              go_wp2_with fail
              go_roundw
              case rel => exact ⟨m + 1, by omega, by omega, by go_num, Lib.hid (thru G.out G2.out)⟩
              case measure => simp [intOf]; omega
        · obtain rfl : q = m8 := by omega
          have HU := Lib.hid (⟨HV.out.1.below G.out, thru HV.out.2.1 G.out⟩ : Has wr b bx A3 c3 ni D ∧ Below w.heap.size w wr)
          obtain ⟨U, hUU⟩ : ∃ x, x = wr := ⟨_, rfl⟩
          subst hUU
          clear HV G
          go_wp2_with fail
          -- atoms stand in their lines
          go_loopw [20, 21, 108] (fun u1 u2 i wr => ∃ k nn left : Nat, k ≤ ni ∧ i = .int .i64 (k : Int) ∧ u1 = .int .i64 (nn : Int) ∧ u2 = .int .i64 (left : Int) ∧ Hid (AtRow D.out (atomsK its k).length nn left ∧ Below U.heap.size U wr)) (fun _ _ i _ => ni - (intOf i).toNat)
          case atStart => exact ⟨0, 0, 0, Nat.zero_le _, rfl, rfl, rfl, Lib.hid ⟨atRow_start _, Below.refl _ _⟩⟩
          case round =>
            obtain ⟨k, nn, left, hk, rfl, rfl, rfl, H⟩ := hrel
            try clear c0 c1 c2
            have hasr := HU.out.1.below H.out.2
            obtain ⟨c0, c1, c2⟩ := hasr.cells
            have hfl : (D.out.flatMap fun e => e.2).length ≤ 30 := by
              rw [← HFc.out.atoms]
              have := atomsK_len its its.length
              have := HI.out.2.2.1
              omega
            have hnl := H.out.1.le
            have hol := HOl.out
            by_cases hlt : k < ni
            · have hki : (k : Int) < (ni : Int) := by omega
              have hk0 : ¬ (k : Int) < 0 := by omega
              have hkl : k < its.length := by have := HI.out.1; omega
              have hwk : IntKind.i64.wrap ((k : Int) + 1) = (k : Int) + 1 := by have := HI.out.2.2.1; exact IntWalk.i64_in _ (by omega)
              obtain ⟨x, hz⟩ : ∃ x, its[k]? = some x := ⟨_, List.getElem?_eq_getElem hkl⟩
              have hxk : itAt its k = x := itAt_is hz
              have hxr := HI.out.2.2.2 x (List.mem_of_getElem? hz)
              obtain ⟨ad, rfl, -, d0, d1, d2, d3⟩ := (HI.out.2.1.thru (thru HU.out.2 H.out.2)) k x hz
              have hsz := HFc.out.size hkl
              rw [hxk] at hsz
              have hsw : IntKind.i64.wrap ((bxAt D.box k).r - (bxAt D.box k).l) = x.wd := by rw [hsz.1]; exact IntWalk.i64_in _ (by have := hxr.w1; have := hxr.w2; omega)
              have hsh : IntKind.i64.wrap ((bxAt D.box k).b - (bxAt D.box k).t) = x.ht := by rw [hsz.2]; exact IntWalk.i64_in _ (by have := hxr.h1; have := hxr.h2; omega)
              have HK := Lib.hid (⟨hz, hxk, hkl⟩ : its[k]? = some x ∧ itAt its k = x ∧ k < its.length)
              go_upto_region 31 with fail
              generalize hW1 : World.alloc wr _ = W1
              obtain ⟨b23, hb23⟩ : ∃ b23, wr.heap.size = b23 := ⟨_, rfl⟩
              have k1 : Below wr.heap.size wr W1 := by rw [← hW1]; exact ba1 _ _
              have z23 : RowAt W1 b23 (irow x) := by rw [← hW1, ← hb23]; exact RowAt.new wr _ _
              try rw [hb23]
              have hasr1 := hasr.below k1
              clear c0 c1 c2 d0 d1 d2 d3 hW1 hb23 hz hxk hxr hsz hkl
              obtain ⟨c0, c1, c2⟩ := hasr1.cells
              obtain ⟨e0, e1, e2, e3⟩ := hasr1.box hlt
              go_upto_region 32 with fail
              generalize hW2 : World.alloc W1 _ = W2
              obtain ⟨b24, hb24⟩ : ∃ b24, W1.heap.size = b24 := ⟨_, rfl⟩
              have k2 : Below W1.heap.size W1 W2 := by rw [← hW2]; exact ba1 _ _
              have z24 : RowAt W2 b24 [.int .i64 (bxAt D.box k).l, .int .i64 (bxAt D.box k).t, .int .i64 (bxAt D.box k).r, .int .i64 (bxAt D.box k).b] := by rw [← hW2, ← hb24]; exact RowAt.new W1 _ _
              try rw [hb24]
              have hk12 := thru k1 k2
              have z23' := z23.below (by simp) k2
              have i0 : W2.cell? ⟨b23, 0, none⟩ = some (.int .i64 x.sd) := z23'.at' 0
              have i2 : W2.cell? ⟨b23, 2, none⟩ = some (.int .i64 x.wd) := z23'.at' 2
              have i3 : W2.cell? ⟨b23, 3, none⟩ = some (.int .i64 x.ht) := z23'.at' 3
              have r0 : W2.cell? ⟨b24, 0, none⟩ = some (.int .i64 (bxAt D.box k).l) := z24.at' 0
              have r1 : W2.cell? ⟨b24, 1, none⟩ = some (.int .i64 (bxAt D.box k).t) := z24.at' 1
              have r2 : W2.cell? ⟨b24, 2, none⟩ = some (.int .i64 (bxAt D.box k).r) := z24.at' 2
              have r3 : W2.cell? ⟨b24, 3, none⟩ = some (.int .i64 (bxAt D.box k).b) := z24.at' 3
              have H2 := Lib.hid (⟨thru H.out.2 hk12, hasr1.below k2, z24⟩ : Below U.heap.size U W2 ∧ Has W2 b bx A3 c3 ni D ∧ RowAt W2 b24 [.int .i64 (bxAt D.box k).l, .int .i64 (bxAt D.box k).t, .int .i64 (bxAt D.box k).r, .int .i64 (bxAt D.box k).b])
              clear c0 c1 c2 e0 e1 e2 e3 hW2 hb24 k1 k2 z23 z23' z24 hasr1 hk12 hasr
              by_cases hs : x.sd = 0
              · have hb0 : (x.sd != 0) = false := by rw [hs]; rfl
                have hxs : (itAt its k).sd = 0 := by rw [HK.out.2.1]; exact hs
                have hpl := atoms_place HK.out.2.2 hxs
                rw [HFc.out.atoms] at hpl
                have HA1 := Lib.hid (show (atomsK its (k + 1)).length = (atomsK its k).length + 1 by rw [atomsK_yes hxs, List.length_append]; rfl)
                have HPl := Lib.hid hpl
                clear hs hxs hpl
                by_cases hl0 : left = 0
                · have hlb : ((left : Int) == 0) = true := by rw [hl0]; rfl
                  have hrw := H.out.1
                  rw [hl0] at hrw
                  obtain ⟨e, he, hrw1⟩ := atRow_next hrw (List.getElem?_eq_some_iff.1 HPl.out).1
                  have hne := List.length_pos_iff.2 (HFc.out.T.ln e (List.mem_of_getElem? he)).2
                  obtain ⟨l, hl⟩ : ∃ l, e.2.length = l + 1 := ⟨e.2.length - 1, by omega⟩
                  have hrw2 := hrw1
                  rw [hl] at hrw2
                  obtain ⟨e', -, he', -, hat, hrow'⟩ := atRow_atom hrw2
                  rw [Nat.add_sub_cancel, he] at he'
                  obtain rfl : e = e' := Option.some.inj he'
                  rw [hl, Nat.sub_self] at hat
                  have hq0 : e.2[0]? = some k := by rw [← hat]; exact HPl.out
                  have hrow := HFc.out.T.row (List.mem_of_getElem? he) hq0
                  have hnlen := (List.getElem?_eq_some_iff.1 he).1
                  obtain ⟨g3, eA, -⟩ := H2.out.2.1.line he
                  subst eA
                  obtain ⟨X, hX⟩ : ∃ X, lnOf e.1 = X := ⟨_, rfl⟩
                  have ha : X.a = (e.2.length : Int) := by rw [← hX]; show ((e.1.az.length : Nat) : Int) = _; rw [(HFc.out.T.ln e (List.mem_of_getElem? he)).1, List.length_map]
                  have HLi := Lib.hid (fun w' (i : Below W2.heap.size W2 w') => show w'.cell? ⟨b, 1, none⟩ = some (.slice (some ⟨g3, 0, none⟩) D.out.length c3) ∧ w'.cell? ⟨g3, nn * 6, none⟩ = some (.int .i64 X.l) ∧ RowAt w' b24 [.int .i64 (bxAt D.box k).l, .int .i64 (bxAt D.box k).t, .int .i64 (bxAt D.box k).r, .int .i64 (bxAt D.box k).b] by
                    have h8 := H2.out.2.1.below i
                    obtain ⟨g1, q1, a0, a1, a2, a3, a4, a5⟩ := h8.line he
                    obtain rfl : g3 = g1 := by injection q1 with q1; injection q1
                    rw [hX] at a0
                    exact ⟨h8.at'.at' 1, a0, H2.out.2.2.below (by simp) i⟩)
                  have HG : Hid (¬ D.out.length ≤ nn ∧ ¬ (D.out.length : Int) ≤ (nn : Int)) := Lib.hid ⟨by omega, by omega⟩
                  have HLe : Hid (((bxAt D.box k).l != X.l) = false) := Lib.hid (by rw [hrow.2.2.1 rfl, ← hX]; show (e.1.l != e.1.l) = false; simp)
                  have HRow := Lib.hid (⟨by rw [← hX]; exact hrow.1, by rw [← hX]; exact hrow.2.1, hrow', ha, hl, he, hX⟩ : (bxAt D.box k).t = X.t ∧ (bxAt D.box k).b ≤ X.b ∧ AtRow D.out ((atomsK its k).length + 1) (nn + 1) l ∧ X.a = (e.2.length : Int) ∧ e.2.length = l + 1 ∧ D.out[nn]? = some e ∧ lnOf e.1 = X)
                  have hni : (nn : Int) < (D.out.length : Int) := by omega
                  have hn0 : ¬ (nn : Int) < 0 := by omega
                  clear hrw hrw1 hrw2 hne hl he he' hat hq0 hrow hrow' ha hX
                  go_upto_region 36 with fail
                  refine Hold2.wp_region_hold_all2 [.val (.int .i64 (nn : Int)), .val (.pointer (some ⟨b, 1, none⟩)), .val (.slice (some ⟨g3, 0, none⟩) D.out.length c3), .val (.int .i64 (D.out.length : Int)), .val (.bool false), .val (.bool false), .val (.pointer (some ⟨b24, 0, none⟩)), .val (.int .i64 ((bxAt D.box k).l)), .val (.pointer (some ⟨b, 1, none⟩)), .val (.slice (some ⟨g3, 0, none⟩) D.out.length c3), .val (.int .i64 (nn : Int)), .val (.pointer (some ⟨g3, nn * 6, none⟩)), .val (.pointer (some ⟨g3, nn * 6, none⟩)), .val (.pointer (some ⟨g3, nn * 6, none⟩)), .val (.int .i64 X.l), .val (.bool false), .val (.bool false)] (by kernel_rfl) (by kernel_rfl) (by kernel_rfl) ?_ ?_
                  · simp only [Hold.fill, Hold.Leave.value]
                    refine ⟨?_, ?_, ?_, ?_, ?_, ?_, ?_, ?_, ?_, ?_, ?_, ?_, ?_, ?_, ?_, ?_, ?_, trivial⟩
                    · intro gg w' hw hk
                      go_simp
                      exact ⟨rfl, rfl⟩
                    · intro gg w' hw hk
                      go_simp
                      exact ⟨rfl, rfl⟩
                    · intro gg w' hw hk
                      have q0 : w'.cell? ⟨b, 1, none⟩ = some (.slice (some ⟨g3, 0, none⟩) D.out.length c3) := (HLi.out w' hw).1
                      go_simp
                      exact ⟨rfl, rfl⟩
                    · intro gg w' hw hk
                      go_simp
                      exact ⟨rfl, rfl⟩
                    · intro gg w' hw hk
                      have qn := HG.out.1
                      have qm := HG.out.2
                      go_simp
                      exact ⟨rfl, rfl⟩
                    · intro gg w' hw hk
                      go_simp
                      exact ⟨rfl, rfl⟩
                    · intro gg w' hw hk
                      go_simp
                      exact ⟨rfl, rfl⟩
                    · intro gg w' hw hk
                      have q0 : w'.cell? ⟨b24, 0, none⟩ = some (.int .i64 ((bxAt D.box k).l)) := ((HLi.out w' hw).2.2).at' 0
                      go_simp
                      exact ⟨rfl, rfl⟩
                    · intro gg w' hw hk
                      go_simp
                      exact ⟨rfl, rfl⟩
                    · intro gg w' hw hk
                      have q0 : w'.cell? ⟨b, 1, none⟩ = some (.slice (some ⟨g3, 0, none⟩) D.out.length c3) := (HLi.out w' hw).1
                      go_simp
                      exact ⟨rfl, rfl⟩
                    · intro gg w' hw hk
                      go_simp
                      exact ⟨rfl, rfl⟩
                    · intro gg w' hw hk
                      go_simp
                      exact ⟨rfl, rfl⟩
                    · intro gg w' hw hk
                      go_simp
                      exact ⟨rfl, rfl⟩
                    · intro gg w' hw hk
                      go_simp
                      exact ⟨rfl, rfl⟩
                    · intro gg w' hw hk
                      have q0 : w'.cell? ⟨g3, nn * 6, none⟩ = some (.int .i64 X.l) := (HLi.out w' hw).2.1
                      go_simp
                      exact ⟨rfl, rfl⟩
                    · intro gg w' hw hk
                      have qn := HLe.out
                      go_simp
                      exact ⟨rfl, rfl⟩
                    · intro gg w' hw hk
                      go_simp
                      exact ⟨rfl, rfl⟩
                  intro gg w4 k4 hgg
                  clear hgg
                  simp only [Hold.fill, Hold.Leave.value]
                  have hasr4 := H2.out.2.1.below k4
                  obtain ⟨c0, c1, c2⟩ := hasr4.cells
                  obtain ⟨g4, eB, l0, l1, l2, l3, l4, l5⟩ := hasr4.line HRow.out.2.2.2.2.2.1
                  obtain rfl : g3 = g4 := by injection eB with eB; injection eB
                  rw [HRow.out.2.2.2.2.2.2] at l0 l1 l2 l3 l4 l5
                  obtain ⟨ll, hll⟩ : ∃ ll : Nat, e.2.length = ll := ⟨_, rfl⟩
                  have ha := HRow.out.2.2.2.1
                  rw [hll] at ha
                  rw [ha] at l4
                  have Z24 := Lib.hid (H2.out.2.2.below (by simp) k4)
                  have hwn : IntKind.i64.wrap ((nn : Int) + 1) = (nn : Int) + 1 := IntWalk.i64_in _ (by omega)
                  have hwn2 : IntKind.i64.wrap ((nn : Int) + 1 - 1) = (nn : Int) := by rw [Int.add_sub_cancel]; exact IntWalk.i64_in _ (by omega)
                  have hl1 : ll = l + 1 := by rw [← hll]; exact HRow.out.2.2.2.2.1
                  have hfb : ll ≤ 30 := by
                    have h1 := flat_take HRow.out.2.2.2.2.2.1
                    have h2 : ((D.out.take (nn + 1)).flatMap fun e => e.2).length ≤ (D.out.flatMap fun e => e.2).length := by
                      have : D.out.flatMap (fun e => e.2) = (D.out.take (nn + 1)).flatMap (fun e => e.2) ++ (D.out.drop (nn + 1)).flatMap (fun e => e.2) := by rw [← List.flatMap_append, List.take_append_drop]
                      rw [this, List.length_append]; omega
                    omega
                  have hwl : IntKind.i64.wrap ((ll : Int) - 1) = (l : Int) := by rw [hl1, show (((l + 1 : Nat) : Int) - 1) = (l : Int) by omega]; exact IntWalk.i64_in _ (by omega)
                  have hbt : ((bxAt D.box k).t != X.t) = false := by rw [HRow.out.1]; simp
                  have hbb : ¬ X.b < (bxAt D.box k).b := by have := HRow.out.2.1; omega
                  have K4 := Lib.hid (thru H2.out.1 k4)
                  clear k4 hasr4 eB ha hll hl1 hfb HLi HG HLe i0 i2 i3 r0 r1 r2 r3
                  go_simp
                  go_upto_region 41 with fail
                  generalize hW5 : World.alloc w4 _ = W5
                  obtain ⟨b25, hb25⟩ : ∃ b25, w4.heap.size = b25 := ⟨_, rfl⟩
                  have k5 : Below w4.heap.size w4 W5 := by rw [← hW5]; exact ba1 _ _
                  have z25 : RowAt W5 b25 (lnrow ⟨X.l, X.t, X.r, X.b, (ll : Int), X.w⟩) := by rw [← hW5, ← hb25]; exact RowAt.new w4 _ _
                  try rw [hb25]
                  have z24' := Z24.out.below (by simp) k5
                  have s1 : W5.cell? ⟨b24, 1, none⟩ = some (.int .i64 (bxAt D.box k).t) := z24'.at' 1
                  have s3 : W5.cell? ⟨b24, 3, none⟩ = some (.int .i64 (bxAt D.box k).b) := z24'.at' 3
                  have n1 : W5.cell? ⟨b25, 1, none⟩ = some (.int .i64 X.t) := z25.at' 1
                  have n3 : W5.cell? ⟨b25, 3, none⟩ = some (.int .i64 X.b) := z25.at' 3
                  have K5 := Lib.hid (thru K4.out k5)
                  clear hW5 hb25 k5 z25 z24'
                  go_wp2_with fail
                  go_roundw
                  case rel => exact ⟨k + 1, nn + 1, l, by omega, by go_num, by go_num, rfl, Lib.hid ⟨by rw [HA1.out]; exact HRow.out.2.2.1, K5.out⟩⟩
                  case measure => simp [intOf]; omega
                · have hlb : ((left : Int) == 0) = false := by simp; exact hl0
                  obtain ⟨l, hl⟩ : ∃ l, left = l + 1 := ⟨left - 1, by omega⟩
                  have hrw := H.out.1
                  rw [hl] at hrw
                  obtain ⟨e, hnp, he, hle, hat, hrow'⟩ := atRow_atom hrw
                  obtain ⟨n0, hn0'⟩ : ∃ n0, nn = n0 + 1 := ⟨nn - 1, by omega⟩
                  rw [hn0', Nat.add_sub_cancel] at he
                  have hq0 : e.2[e.2.length - (l + 1)]? = some k := by rw [← hat]; exact HPl.out
                  have hrow := HFc.out.T.row (List.mem_of_getElem? he) hq0
                  have hnlen := (List.getElem?_eq_some_iff.1 he).1
                  obtain ⟨c0, c1, c2⟩ := H2.out.2.1.cells
                  obtain ⟨g3, eA, l0, l1, l2, l3, l4, l5⟩ := H2.out.2.1.line he
                  subst eA
                  obtain ⟨X, hX⟩ : ∃ X, lnOf e.1 = X := ⟨_, rfl⟩
                  rw [hX] at l0 l1 l2 l3 l4 l5
                  have hbt : ((bxAt D.box k).t != X.t) = false := by rw [hrow.1, ← hX]; show (e.1.top != e.1.top) = false; simp
                  have hbb : ¬ X.b < (bxAt D.box k).b := by rw [← hX]; show ¬ e.1.b < _; have := hrow.2.1; omega
                  have hwn2 : IntKind.i64.wrap ((nn : Int) - 1) = (n0 : Int) := by rw [hn0', show (((n0 + 1 : Nat) : Int) - 1) = (n0 : Int) by omega]; exact IntWalk.i64_in _ (by omega)
                  have hni : (n0 : Int) < (D.out.length : Int) := by omega
                  have hn0 : ¬ (n0 : Int) < 0 := by omega
                  have hlb2 : left ≤ 30 := by
                    have h1 := H.out.1.len
                    have h2 : ((D.out.take nn).flatMap fun e => e.2).length ≤ (D.out.flatMap fun e => e.2).length := by
                      have : D.out.flatMap (fun e => e.2) = (D.out.take nn).flatMap (fun e => e.2) ++ (D.out.drop nn).flatMap (fun e => e.2) := by rw [← List.flatMap_append, List.take_append_drop]
                      rw [this, List.length_append]; omega
                    omega
                  have hwl : IntKind.i64.wrap ((left : Int) - 1) = (l : Int) := by rw [hl, show (((l + 1 : Nat) : Int) - 1) = (l : Int) by omega]; exact IntWalk.i64_in _ (by omega)
                  have HRow := Lib.hid hrow'
                  clear hrw hl hnp he hle hat hrow' hn0' hq0 hrow hX hlb2
                  go_upto_region 41 with fail
                  generalize hW5 : World.alloc W2 _ = W5
                  obtain ⟨b25, hb25⟩ : ∃ b25, W2.heap.size = b25 := ⟨_, rfl⟩
                  have k5 : Below W2.heap.size W2 W5 := by rw [← hW5]; exact ba1 _ _
                  have z25 : RowAt W5 b25 (lnrow X) := by rw [← hW5, ← hb25]; exact RowAt.new W2 _ _
                  try rw [hb25]
                  have z24' := H2.out.2.2.below (by simp) k5
                  have s1 : W5.cell? ⟨b24, 1, none⟩ = some (.int .i64 (bxAt D.box k).t) := z24'.at' 1
                  have s3 : W5.cell? ⟨b24, 3, none⟩ = some (.int .i64 (bxAt D.box k).b) := z24'.at' 3
                  have n1 : W5.cell? ⟨b25, 1, none⟩ = some (.int .i64 X.t) := z25.at' 1
                  have n3 : W5.cell? ⟨b25, 3, none⟩ = some (.int .i64 X.b) := z25.at' 3
                  have K5 := Lib.hid (thru H2.out.1 k5)
                  clear hW5 hb25 k5 z25 z24'
                  go_wp2_with fail
                  go_roundw
                  case rel => exact ⟨k + 1, nn, l, by omega, by go_num, rfl, rfl, Lib.hid ⟨by rw [HA1.out]; exact HRow.out, K5.out⟩⟩
                  case measure => simp [intOf]; omega
              · have hb0 : (x.sd != 0) = true := by simp [hs]
                have hxs : (itAt its k).sd ≠ 0 := by rw [HK.out.2.1]; exact hs
                have HA1 := Lib.hid (show atomsK its (k + 1) = atomsK its k from atomsK_no hxs)
                clear hs hxs
                go_wp2_with fail
                go_roundw
                case rel => exact ⟨k + 1, nn, left, by omega, by go_num, rfl, rfl, Lib.hid ⟨by rw [HA1.out]; exact H.out.1, H2.out.1⟩⟩
                case measure => simp [intOf]; omega
            · obtain rfl : k = ni := by omega
              have hrw := H.out.1
              rw [HI.out.1, HFc.out.atoms] at hrw
              obtain ⟨rfl, rfl⟩ := atRow_end hrw fun e he => (HFc.out.T.ln e he).2
              clear hrw hasr hfl hnl hol
              go_wp2_with fail
              go_ret
              exact ⟨rfl, thru HU.out.2 H.out.2⟩

theorem apart_any (hO : SpaceOk S) (hP : PlaceOk S) (A : Option Addr) (n c : Nat) (fs : List Fl) (f t y : Int) (AI : Option Addr) (ni ci : Nat) (its : List It) (w : World) (hn : n = fs.length) (hm : n ≤ 9223372036854775807) (hx : Floats w w.heap.size A fs) (hni : ni = its.length) (hmi : ni ≤ 9223372036854775807) (hci : ni ≤ ci) (hxi : Items w w.heap.size AI its) :
    Calls Try.prog 3 #[.slice A n c, .int .i64 f, .int .i64 t, .int .i64 y, .slice AI ni ci] w fun e w' => e = .returned (.bool true) ∧ Below w.heap.size w w' := by
  by_cases hv : okT fs f t y its = true
  · exact apart_yes hO hP A n c fs f t y AI ni ci its  w hn hm hx hni hmi hci hxi hv
  · exact apart_few hO hP A n c fs f t y AI ni ci its  w hn hm hx hni hmi hci hxi (by simpa using hv)

end

end Go.Proofs.Ytdibdfalahjmbaa.Text
