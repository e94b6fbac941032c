/- The walk of TreeLaws, over the contracts of the program's trees. -/
import Derived.Test.YtmmmlegjhblfaaaTreeCounts
import Derived.Test.YtmmmlegjhblfaaaTreeSeen
import Derived.Laws.OwnMore
namespace Go.Proofs.Ytmmmlegjhblfaaa.Tree
open Go.RowKit Go.Sort Go.Proofs.Ytmmmlegjhblfaaa.Record Go.Proofs.Ytmmmlegjhblfaaa.Script Go.Proofs.Ytmmmlegjhblfaaa.More

section
variable {T : World → Addr → List Bx → Prop}

theorem kids_new (hT : TreeOk T) {n : Nat} {bs : List Bx} (hn : n = bs.length) {w : World} {p : Addr} (h : T w p bs) {k l : Nat} (hk : k < n) (hl : (kids (dOf bs) n k).length = l) : Calls Try.prog 24 #[.pointer (some p), .int .i64 (k : Int)] w fun r w' => (∃ A1 c1, r = .returned (.slice A1 l c1) ∧ Nums w' w'.heap.size A1 ((kids (dOf bs) n k).map Int.ofNat) ∧ (0 < l → ∀ ad, A1 = some ad → w.heap.size ≤ ad.block)) ∧ Below w.heap.size w w' := by
  refine (hT.kids w p bs k h).mono ?_
  rintro r w' ⟨u, rfl, ⟨A1, c1, rfl, h1, h2⟩, kk⟩
  rw [kidsT_nat (by omega), ← hn] at h1 h2 ⊢
  refine ⟨⟨A1, c1, by rw [List.length_map, hl], h1, fun h0 => h2 (fun e => ?_)⟩, kk⟩
  have := congrArg List.length e
  rw [List.length_map, hl] at this
  simp at this
  omega

theorem box_lit (hT : TreeOk T) {n : Nat} {bs : List Bx} (hn : n = bs.length) {w : World} {p : Addr} (h : T w p bs) {k : Nat} {y : Bx} {d : Int} (hk : k < n) (hy : bs.getD k noB = y) (hd : y.d = d) : Calls Try.prog 15 #[.pointer (some p), .int .i64 (k : Int)] w fun r w' => r = .returned (.agg #[.int .i64 d, .int .i64 y.k, .int .i64 y.s, .int .i64 y.c, .int .i64 y.w, .int .i64 y.h, .int .i64 y.m0, .int .i64 y.m1, .int .i64 y.m2, .int .i64 y.m3, .int .i64 y.e0, .int .i64 y.e1, .int .i64 y.e2, .int .i64 y.e3]) ∧ Below w.heap.size w w' := by
  subst hd
  exact box_at hT hn h hk hy

theorem field_d (y : Bx) (d : Int) (w : World) : (Instr.field 39 (.agg #[.int .i64 d, .int .i64 y.k, .int .i64 y.s, .int .i64 y.c, .int .i64 y.w, .int .i64 y.h, .int .i64 y.m0, .int .i64 y.m1, .int .i64 y.m2, .int .i64 y.m3, .int .i64 y.e0, .int .i64 y.e1, .int .i64 y.e2, .int .i64 y.e3]) 0).run Try.prog w = .ok (.int .i64 d) w := by
  kernel_rfl

theorem nums_put {w : World} {A : Option Addr} {xs : List Int} (h : Nums w w.heap.size A xs) (a : Addr) (v : Value) (hne : 0 < xs.length → ∀ ad, A = some ad → ad.block ≠ a.block) : Nums (w.setCell a v) (w.setCell a v).heap.size A xs := fun k hk => by
  obtain ⟨ad, e, hb, hc⟩ := h k hk
  have hn := hne (by omega) ad e
  have hs : (w.setCell a v).heap.size = w.heap.size := by simp [World.setCell]
  refine ⟨ad, e, by rw [hs]; exact hb, ?_⟩
  have : (w.setCell a v).heap[(ad.add k).block]? = w.heap[(ad.add k).block]? := by
    rw [block_of_add]
    simp [World.setCell, Array.getElem?_modify, Ne.symm hn]
  simpa [World.cell?, this] using hc

set_option maxRecDepth 100000 in
set_option maxHeartbeats 8000000 in
theorem laws_yes (hT : TreeOk T) (A : Option Addr) (n c : Nat) (bs : List Bx) (w : World) (hn : n = bs.length) (hlen : n ≤ 100) (h0 : 0 < n) (hx : Boxes w w.heap.size A bs) (hb : ∀ b ∈ bs, OkB b) (hf : Fine bs n) :
    Calls Try.prog 5 #[.slice A n c] w fun r w' => r = .returned (.bool true) ∧ Below w.heap.size w w' := by
  have HX := Lib.hid hx
  have HN := Lib.hid hn
  have HB := Lib.hid hb
  have HF := Lib.hid hf
  have HSH := Lib.hid (hf.shape h0)
  clear hx hn hb hf
  go_enter Try.func5, Try.ntmps5
  go_wp2_with fail
  refine (speaks_any hT _).mono ?_; rintro e w1 ⟨rfl, k1⟩
  have K1 := Lib.hid k1
  clear k1
  go_wp2_with fail
  refine (refchk_any A n c bs (-1) 0 w1 HN.out (by omega) (HX.out.thru K1.out) (chk_fine HN.out h0 HF.out)).mono ?_; rintro e w2 ⟨rfl, k2⟩
  have K2 := Lib.hid (thru K1.out k2)
  clear k2 K1
  go_wp2_with fail
  refine (begin_some hT A n c bs w2 HN.out (by omega) h0 (HX.out.thru K2.out) HB.out HF.out).mono ?_; rintro e w3 ⟨⟨p, rfl, ht⟩, k3⟩
  have K3 := Lib.hid (thru K2.out k3)
  have HT3 := Lib.hid ht
  clear k3 K2 ht
  go_wp2_with fail
  refine (len_at hT HN.out HT3.out).mono ?_; rintro r w4 ⟨rfl, k4⟩
  have K4 := Lib.hid (thru K3.out k4)
  have HT4 := Lib.hid (hT.keep _ _ _ _ HT3.out k4)
  clear k4 HT3 K3
  obtain ⟨i0, hi0, hz0, hz1, hz2⟩ := info_parts int_info
  obtain ⟨w5, hmk, hown, hg5⟩ := run_makeSlice_full (P := Try.prog) w4 w4.heap.size 35 3 i0 (.int .i64 0) 1 Try.underlying35 hi0 hz0 hz1 .i64 .i64 n (by omega) (by rw [hz2]; omega) (by unfold maxLen; omega) (Nat.le_refl _)
  have hmk' : (Instr.makeSlice 35 (.int .i64 (n : Int)) (.int .i64 (n : Int))).run Try.prog w4 = .ok (.slice (some ⟨w4.heap.size, 0, none⟩) n n) w5 := hmk
  rw [made_zeros, seenL_zero] at hown
  have hM5 : Mine w5 w4.heap.size (some ⟨w4.heap.size, 0, none⟩) n n (seenL n (fun _ => false)) := hown
  have HM5 := Lib.hid hM5
  have B5 := Lib.hid ((Below.refl w4.heap.size w4).grown hg5 (Nat.le_refl _) (fun j e => by cases e))
  clear hown hM5 hg5 hmk hi0 hz0 hz1 hz2
  go_wp2_with fail
  refine (len_at hT HN.out (hT.keep _ _ _ _ HT4.out B5.out)).mono ?_; rintro r w6 ⟨rfl, kk⟩
  have B6 := Lib.hid (thru B5.out kk)
  have HM6 := Lib.hid (HM5.out.below kk)
  clear kk HM5 B5 hmk'
  go_wp2_with fail
  go_loopw [41] (fun t wr => ∃ k : Nat, k ≤ n ∧ t = .int .i64 (k : Int) ∧ Hid (Mine wr w4.heap.size (some ⟨w4.heap.size, 0, none⟩) n n (seenL n (inB (dOf bs) k)) ∧ Below w4.heap.size w4 wr)) (fun t _ => n - (intOf t).toNat)
  case atStart => exact ⟨0, Nat.zero_le _, rfl, Lib.hid ⟨by rw [seenL_congr (fun c _ => inB_zero (dOf bs) c)]; exact HM6.out, B6.out⟩⟩
  case round =>
    clear HM6 B6
    obtain ⟨k, hk, rfl, H⟩ := hrel
    by_cases hlt : k < n
    · obtain ⟨l, hl⟩ : ∃ l, (kids (dOf bs) n k).length = l := ⟨_, rfl⟩
      obtain ⟨e, he⟩ : ∃ e : Int, (en (dOf bs) n k : Int) = e := ⟨_, rfl⟩
      obtain ⟨kb, hkb⟩ : ∃ kb, bs.getD k noB = kb := ⟨_, rfl⟩
      have HL := Lib.hid hl
      have HE := Lib.hid he
      have HKB := Lib.hid hkb
      obtain ⟨kd, hkd2⟩ : ∃ kd, kb.d = kd := ⟨_, rfl⟩
      have HKD := Lib.hid hkd2
      have hln : l ≤ n := by rw [← hl]; exact kids_le _ _ _ hlt
      have hkd := HF.out.depth hlt
      have hkd' : 0 ≤ kd ∧ kd ≤ 256 := by unfold dOf at hkd; rw [hkb, hkd2] at hkd; exact hkd
      obtain ⟨hkd0, hkd1⟩ := hkd'
      clear hl he hkb hkd hkd2
      obtain ⟨wo, hwo⟩ : ∃ x, x = wr := ⟨_, rfl⟩
      subst hwo
      go_wp2_with fail
      refine (kids_new hT HN.out (hT.keep _ _ _ _ HT4.out H.out.2) hlt HL.out).mono ?_; rintro r w7 ⟨⟨A1, c1, rfl, h1, h2⟩, kk⟩
      have H1 := Lib.hid h1
      have H2 : Hid (0 < ((kids (dOf bs) n k).map Int.ofNat).length → ∀ ad, A1 = some ad → ad.block ≠ w4.heap.size) := Lib.hid fun h0 ad e => by
        rw [List.length_map, HL.out] at h0
        have g := h2 h0 ad e
        have := (H.out.1.lt w4.heap.size rfl).2
        omega
      have B7 := Lib.hid (thru H.out.2 kk)
      have HM7 := Lib.hid (H.out.1.below kk)
      clear kk h1 h2
      go_wp2_with fail
      go_loopw [8, 49] (fun u t wz => ∃ j : Nat, ∃ x : Int, j ≤ l ∧ t = .int .i64 (j : Int) ∧ u = .int .i64 x ∧ Hid ((j = 0 → x = (k : Int)) ∧ (∀ i y, j = i + 1 → (kids (dOf bs) n k)[i]? = some y → x = (y : Int)) ∧ Mine wz w4.heap.size (some ⟨w4.heap.size, 0, none⟩) n n (seenL n (inK (dOf bs) n k j)) ∧ Nums wz wz.heap.size A1 ((kids (dOf bs) n k).map Int.ofNat) ∧ Below w4.heap.size w4 wz)) (fun _ t _ => l - (intOf t).toNat)
      case atStart => exact ⟨0, k, Nat.zero_le _, rfl, rfl, Lib.hid ⟨fun _ => rfl, fun i y h => by omega, by rw [seenL_congr (fun c _ => inK_zero (dOf bs) n k c)]; exact HM7.out, H1.out, B7.out⟩⟩
      case round => as_aux_lemma =>
        obtain ⟨j, x, hj, rfl, rfl, G⟩ := hrel
        clear H1 HM7 B7
        by_cases hjl : j < l
        · obtain ⟨y, hy⟩ : ∃ y, (kids (dOf bs) n k)[j]? = some y := ⟨_, List.getElem?_eq_getElem (by rw [HL.out]; exact hjl)⟩
          obtain ⟨hky, hyn, hye, hyp, hyen, hyd⟩ := HSH.out.kid_facts k j y hlt hy
          obtain ⟨-, hin0, hin1, hin2⟩ := HSH.out.inK_new k j y hlt hy
          have hxy : x < (y : Int) := by
            rcases Nat.eq_zero_or_pos j with e | e
            · rw [G.out.1 e]; omega
            · obtain ⟨i, rfl⟩ : ∃ i, j = i + 1 := ⟨j - 1, by omega⟩
              obtain ⟨z, hz⟩ : ∃ z, (kids (dOf bs) n k)[i]? = some z := ⟨_, List.getElem?_eq_getElem (by rw [HL.out]; omega)⟩
              have := kids_rise _ _ _ _ _ _ hz hy
              rw [G.out.2.1 i z rfl hz]
              omega
          have hye' : (y : Int) < e := by rw [← HE.out]; omega
          obtain ⟨e2, he2⟩ : ∃ e2 : Int, (en (dOf bs) n y : Int) = e2 := ⟨_, rfl⟩
          have hee : e2 ≤ e := by rw [← he2, ← HE.out]; omega
          obtain ⟨yb, hyb⟩ : ∃ yb, bs.getD y noB = yb := ⟨_, rfl⟩
          have hydd : yb.d = kd + 1 := by unfold dOf at hyd; rw [hyb, HKB.out, HKD.out] at hyd; exact hyd
          have HYE := Lib.hid he2
          have HYB := Lib.hid hyb
          have HYP := Lib.hid hyp
          have HYY := Lib.hid hy
          have HIN := Lib.hid (⟨hin0, hin1, hin2⟩ : inK (dOf bs) n k j y = false ∧ inK (dOf bs) n k (j + 1) y = true ∧ ∀ c, c ≠ y → inK (dOf bs) n k j c = inK (dOf bs) n k (j + 1) c)
          obtain ⟨ad, hA, hab, g1⟩ := G.out.2.2.2.1 j (by rw [List.length_map, HL.out]; exact hjl)
          subst hA
          have e1 : ((kids (dOf bs) n k).map Int.ofNat).getD j 0 = (y : Int) := by simp [List.getD, hy]
          rw [e1] at g1
          have HYD := Lib.hid hydd
          clear hy he2 hyb hyp hyd hyen hye hin0 hin1 hin2 e1 hab hydd
          go_upto_region 17 with fail
          clear g1
          have hf1 := field_d yb (kd + 1)
          have hf2 := field_d kb kd
          go_upto_region 19 with (first
            | (go_at_call 19; with_reducible refine (en_at hT HN.out (hT.keep _ _ _ _ HT4.out G.out.2.2.2.2) hlt HE.out).mono ?_; rintro r w8 ⟨rfl, kk⟩; have Z8 := Lib.hid (kk); clear kk)
            | (go_at_call 17; with_reducible refine (par_at hT HN.out (hT.keep _ _ _ _ HT4.out (thru G.out.2.2.2.2 Z8.out)) hyn HYP.out).mono ?_; rintro r w9 ⟨rfl, kk⟩; have Z9 := Lib.hid (thru Z8.out kk); clear kk)
            | (go_at_call 19; with_reducible refine (en_at hT HN.out (hT.keep _ _ _ _ HT4.out (thru G.out.2.2.2.2 Z9.out)) hyn HYE.out).mono ?_; rintro r wa ⟨rfl, kk⟩; have Za := Lib.hid (thru Z9.out kk); clear kk)
            | (go_at_call 19; with_reducible refine (en_at hT HN.out (hT.keep _ _ _ _ HT4.out (thru G.out.2.2.2.2 Za.out)) hlt HE.out).mono ?_; rintro r wb ⟨rfl, kk⟩; have Zb := Lib.hid (thru Za.out kk); clear kk)
            | (go_at_call 15; with_reducible refine (box_lit hT HN.out (hT.keep _ _ _ _ HT4.out (thru G.out.2.2.2.2 Zb.out)) hyn HYB.out HYD.out).mono ?_; rintro r wc ⟨rfl, kk⟩; have Zc := Lib.hid (thru Zb.out kk); clear kk)
            | (go_at_call 15; with_reducible refine (box_lit hT HN.out (hT.keep _ _ _ _ HT4.out (thru G.out.2.2.2.2 Zc.out)) hlt HKB.out HKD.out).mono ?_; rintro r wd ⟨rfl, kk⟩; have Zd := Lib.hid (thru Zc.out kk); clear kk))
          clear hf1 hf2
          have HMd := Lib.hid (G.out.2.2.1.below Zd.out)
          have HND := Lib.hid ((G.out.2.2.2.1.below Zd.out).more Zd.out.size)
          have BD := Lib.hid (thru G.out.2.2.2.2 Zd.out)
          obtain ⟨g0, eg, -, -, hcell⟩ := Mine.cell HMd.out y (by rw [seenL_len]; exact hyn)
          injection eg with eg
          injection eg with eg _ _
          subst eg
          rw [seenL_get hyn, HIN.out.1, add0] at hcell
          have hc0 : wd.cell? ⟨w4.heap.size, y, none⟩ = some (.int .i64 0) := hcell
          obtain ⟨g1, eg, -, -, hfz, hms⟩ := mine_set HMd.out y hyn 1
          injection eg with eg
          injection eg with eg _ _
          subst eg
          rw [add0, seenL_set (Q := inK (dOf bs) n k (j + 1)) HIN.out.2.1 (fun c _ hc => HIN.out.2.2 c hc)] at hms
          have HMS := Lib.hid hms
          have hfy := hfz y
          clear hms hcell hfz
          go_wp2_with fail
          have HNS := Lib.hid (nums_put HND.out ⟨w4.heap.size, y, none⟩ (.int .i64 1) (fun h0 a e => H2.out h0 a e))
          have BS := Lib.hid (BD.out.setCell (p := ⟨w4.heap.size, y, none⟩) (Nat.le_refl _) (.int .i64 1))
          clear hc0 hfy
          generalize World.setCell wd _ _ = we at HMS HNS BS ⊢
          go_roundw
          case rel =>
            exact ⟨j + 1, y, by omega, by go_num, rfl, Lib.hid ⟨fun h => by omega, fun i z hi hz => by
              obtain rfl : i = j := by omega
              rw [HYY.out] at hz
              injection hz with hz
              rw [hz], HMS.out, HNS.out, BS.out⟩⟩
          case measure => simp [intOf]; omega
        · obtain rfl : j = l := by omega
          have HMl : Hid (Mine wr w4.heap.size (some ⟨w4.heap.size, 0, none⟩) n n (seenL n (inB (dOf bs) (k + 1)))) := Lib.hid (by
            rw [← seenL_congr (fun c hc => HSH.out.inK_all k c hlt hc), HL.out]
            exact G.out.2.2.1)
          have BL := Lib.hid G.out.2.2.2.2
          clear G H2
          obtain ⟨q, hq⟩ : ∃ q, ctx (dOf bs) (oOf bs) k = q := ⟨_, rfl⟩
          have hqk : k = 0 ∧ q = 0 ∨ 0 < k ∧ q < k := by
            rcases Nat.eq_zero_or_pos k with e | e
            · subst e; rw [ctx_zero] at hq; exact .inl ⟨rfl, hq.symm⟩
            · exact .inr ⟨e, by rw [← hq]; exact ctx_lt _ _ _ e⟩
          have hqn : q < n := by omega
          obtain ⟨eq, heq⟩ : ∃ eq : Int, (en (dOf bs) n q : Int) = eq := ⟨_, rfl⟩
          have hqe : e ≤ eq := by rw [← heq, ← HE.out, ← hq]; have := HSH.out.ctx_en (oOf bs) k hlt; omega
          have HQ := Lib.hid hq
          have HQE := Lib.hid heq
          clear hq heq
          rcases hqk with ⟨hk0, hqk⟩ | ⟨hk0, hqk⟩
          · have hk1 : ¬ (0 : Int) < (k : Int) := by omega
            have hk2 : ¬ (k : Int) < (q : Int) := by omega
            clear hk0 hqk
            go_wp2_with (first
              | (go_at_call 21; with_reducible refine (ctx_at hT HN.out (hT.keep _ _ _ _ HT4.out BL.out) hlt HQ.out).mono ?_; rintro r wf ⟨rfl, kk⟩; have Zf := Lib.hid (kk); clear kk))
            have HMf := Lib.hid (HMl.out.below Zf.out)
            have BF := Lib.hid (thru BL.out Zf.out)
            go_roundw
            case rel => exact ⟨k + 1, by omega, by go_num, Lib.hid ⟨HMf.out, BF.out⟩⟩
            case measure => simp [intOf]; omega
          · go_wp2_with (first
              | (go_at_call 21; with_reducible refine (ctx_at hT HN.out (hT.keep _ _ _ _ HT4.out BL.out) hlt HQ.out).mono ?_; rintro r wf ⟨rfl, kk⟩; have Zf := Lib.hid (kk); clear kk)
              | (go_at_call 19; with_reducible refine (en_at hT HN.out (hT.keep _ _ _ _ HT4.out (thru BL.out Zf.out)) hqn HQE.out).mono ?_; rintro r wg ⟨rfl, kk⟩; have Zg := Lib.hid (thru Zf.out kk); clear kk)
              | (go_at_call 19; with_reducible refine (en_at hT HN.out (hT.keep _ _ _ _ HT4.out (thru BL.out Zg.out)) hlt HE.out).mono ?_; rintro r wh ⟨rfl, kk⟩; have Zh := Lib.hid (thru Zg.out kk); clear kk))
            have HMf := Lib.hid (HMl.out.below Zh.out)
            have BF := Lib.hid (thru BL.out Zh.out)
            go_roundw
            case rel => exact ⟨k + 1, by omega, by go_num, Lib.hid ⟨HMf.out, BF.out⟩⟩
            case measure => simp [intOf]; omega
    · obtain rfl : k = n := by omega
      have HMn : Hid (Mine wr w4.heap.size (some ⟨w4.heap.size, 0, none⟩) k k (seenL k (fun c => decide (0 < c)))) := Lib.hid (by
        rw [← seenL_congr (fun c hc => HSH.out.inB_all c hc)]
        exact H.out.1)
      have BN := Lib.hid H.out.2
      clear H
      obtain ⟨wo, hwo⟩ : ∃ x, x = wr := ⟨_, rfl⟩
      subst hwo
      go_wp2_with fail
      go_loopw [130] (fun t wz => ∃ j : Nat, j ≤ k ∧ t = .int .i64 (j : Int) ∧ wz = wo) (fun t _ => k - (intOf t).toNat)
      case atStart => exact ⟨0, Nat.zero_le _, rfl, rfl⟩
      case round =>
        obtain ⟨j, hj, rfl, hwz⟩ := hrel
        subst hwz
        by_cases hjk : j < k
        · obtain ⟨g0, eg, -, -, hcell⟩ := Mine.cell HMn.out j (by rw [seenL_len]; exact hjk)
          injection eg with eg
          injection eg with eg _ _
          subst eg
          rw [seenL_get hjk, add0] at hcell
          rcases Nat.eq_zero_or_pos j with hj0 | hj0
          · subst hj0
            have hc : wr.cell? ⟨w4.heap.size, 0, none⟩ = some (.int .i64 0) := hcell
            clear hcell
            go_wp2_with fail
            go_roundw
            case rel => exact ⟨1, by omega, by go_num, trivial⟩
            case measure => simp [intOf]; omega
          · have hc : wr.cell? ⟨w4.heap.size, j, none⟩ = some (.int .i64 1) := by
              rw [hcell]; simp [hj0]
            have hj1 : (1 : Int) ≤ (j : Int) := by omega
            clear hcell hj0
            go_wp2_with fail
            all_goals first
              | omega
              | (go_roundw
                 case rel => exact ⟨j + 1, by omega, by go_num, trivial⟩
                 case measure => simp [intOf]; omega)
        · obtain rfl : j = k := by omega
          obtain ⟨l, hl⟩ : ∃ l, (opensTo bs j).length = l := ⟨_, rfl⟩
          have HO : Hid (Calls Try.prog 27 #[.pointer (some p)] wr fun r w' => (∃ A1 c1, r = .returned (.slice A1 l c1) ∧ Nums w' w'.heap.size A1 (opensTo bs j)) ∧ Below wr.heap.size wr w') := Lib.hid (by
            refine (hT.opensL wr p bs (hT.keep _ _ _ _ HT4.out BN.out)).mono ?_
            rintro r w' ⟨u, rfl, ⟨A1, c1, rfl, h1⟩, kk⟩
            have e : opensT bs = opensTo bs j := by unfold opensT opensTo; rw [HN.out]
            rw [e] at h1 ⊢
            rw [hl]
            exact ⟨⟨A1, c1, rfl, h1⟩, kk⟩)
          obtain ⟨hlp, hlast⟩ := opensTo_last bs (show oOf bs 0 = true by
            have h := HF.out.root h0
            unfold rootB at h
            simp only [Bool.and_eq_true, beq_iff_eq] at h
            unfold oOf openB
            rw [h.1.1.1.2]
            decide) j h0
          have hlj : l ≤ j := by
            rw [← hl]
            unfold opensTo
            rw [List.length_reverse, List.length_map]
            exact Nat.le_trans (List.length_filter_le _ _) (by rw [List.length_range]; exact Nat.le_refl _)
          rw [hl] at hlp hlast
          have HL := Lib.hid hl
          have HLA := Lib.hid hlast
          clear hl hlast
          go_wp2_with fail
          refine HO.out.mono ?_; rintro r w7 ⟨⟨A2, c2, rfl, h1⟩, kk⟩
          have H1 := Lib.hid h1
          have B7 := Lib.hid (thru BN.out kk)
          clear h1 kk HO HMn BN
          obtain ⟨ad, hA, -, -⟩ := H1.out 0 (by rw [HL.out]; exact hlp)
          subst hA
          go_wp2_with fail
          go_loopw [144] (fun t wz => ∃ i : Nat, i ≤ l ∧ t = .int .i64 (i : Int) ∧ wz = w7) (fun t _ => l - (intOf t).toNat)
          case atStart => exact ⟨0, Nat.zero_le _, rfl, rfl⟩
          case round =>
            obtain ⟨i, hi, rfl, hwz⟩ := hrel
            subst hwz
            by_cases hil : i < l
            · obtain ⟨x, hx⟩ : ∃ x, (opensTo bs j)[i]? = some x := ⟨_, List.getElem?_eq_getElem (by rw [HL.out]; exact hil)⟩
              obtain ⟨_, hA2, _, g1⟩ := H1.out i (by rw [HL.out]; exact hil)
              injection hA2 with hA2
              subst hA2
              have e1 : (opensTo bs j).getD i 0 = x := by simp [List.getD, hx]
              rw [e1] at g1
              rcases Nat.eq_zero_or_pos i with hi0 | hi0
              · subst hi0
                have g0 : wr.cell? ad = some (.int .i64 x) := by simpa [Addr.add] using g1
                clear hx e1 g1
                go_wp2_with fail
                go_roundw
                case rel => exact ⟨1, by omega, by go_num, trivial⟩
                case measure => simp [intOf]; omega
              · obtain ⟨m, rfl⟩ : ∃ m, i = m + 1 := ⟨i - 1, by omega⟩
                obtain ⟨z, hz⟩ : ∃ z, (opensTo bs j)[m]? = some z := ⟨_, List.getElem?_eq_getElem (by rw [HL.out]; omega)⟩
                have hzx : ¬ z ≤ x := by have := opensTo_fall bs j m z x hz hx; omega
                obtain ⟨_, hA2, _, g2⟩ := H1.out m (by rw [HL.out]; omega)
                injection hA2 with hA2
                subst hA2
                have e2 : (opensTo bs j).getD m 0 = z := by simp [List.getD, hz]
                rw [e2] at g2
                obtain ⟨i, hie⟩ : ∃ i, m + 1 = i := ⟨_, rfl⟩
                rw [hie] at g1 hil hi ⊢
                have him : ((i : Int) - 1) = (m : Int) := by omega
                have hi1 : (0 : Int) < (i : Int) := by omega
                have hml : m < l := by omega
                clear hx hz e1 e2 hie hi0
                go_wp2_with fail
                go_roundw
                case rel => exact ⟨i + 1, by omega, by go_num, trivial⟩
                case measure => simp [intOf]; omega
            · obtain rfl : i = l := by omega
              obtain ⟨_, hA2, _, g1⟩ := H1.out (i - 1) (by rw [HL.out]; omega)
              injection hA2 with hA2
              subst hA2
              have e1 : (opensTo bs j).getD (i - 1) 0 = 0 := by simp [List.getD, HLA.out]
              rw [e1] at g1
              obtain ⟨m, hm⟩ : ∃ m, i - 1 = m := ⟨_, rfl⟩
              rw [hm] at g1
              have him : ((i : Int) - 1) = (m : Int) := by omega
              have hmi : m < i := by omega
              clear e1 hm
              go_wp2_with fail
              go_ret
              exact ⟨rfl, thru K4.out B7.out⟩

set_option maxRecDepth 100000 in
set_option maxHeartbeats 1000000 in
theorem laws_no (hT : TreeOk T) (A : Option Addr) (n c : Nat) (bs : List Bx) (w : World) (a e : Int) (hn : n = bs.length) (hlen : n ≤ 100) (hx : Boxes w w.heap.size A bs) (hc : chk bs = (a, e)) (he : e ≠ 0) :
    Calls Try.prog 5 #[.slice A n c] w fun r w' => r = .returned (.bool true) ∧ Below w.heap.size w w' := by
  have HX := Lib.hid hx
  have HN := Lib.hid hn
  have HC := Lib.hid hc
  clear hx hn hc
  have he' : (e == 0) = false := by simp [he]
  go_enter Try.func5, Try.ntmps5
  go_wp2_with fail
  refine (speaks_any hT _).mono ?_; rintro r w1 ⟨rfl, k1⟩
  have K1 := Lib.hid k1
  clear k1
  go_wp2_with fail
  refine (refchk_any A n c bs a e w1 HN.out (by omega) (HX.out.thru K1.out) HC.out).mono ?_; rintro r w2 ⟨rfl, k2⟩
  have K2 := Lib.hid (thru K1.out k2)
  clear k2 K1
  go_wp2_with fail
  go_ret
  exact ⟨rfl, K2.out⟩

set_option maxRecDepth 100000 in
set_option maxHeartbeats 1000000 in
theorem laws_long (hT : TreeOk T) (A : Option Addr) (n c : Nat) (w : World) (h : ¬ n ≤ 100) :
    Calls Try.prog 5 #[.slice A n c] w fun r w' => r = .returned (.bool true) ∧ Below w.heap.size w w' := by
  have h1 : (100 : Int) < (n : Int) := by omega
  clear h
  go_enter Try.func5, Try.ntmps5
  go_wp2_with fail
  refine (speaks_any hT _).mono ?_; rintro r w1 ⟨rfl, k1⟩
  go_wp2_with fail
  refine (speaks_any hT _).mono ?_; rintro r w2 ⟨rfl, k2⟩
  go_wp2_with fail
  go_ret
  exact ⟨rfl, thru k1 k2⟩

theorem laws_any (hT : TreeOk T) (A : Option Addr) (n c : Nat) (bs : List Bx) (w : World) (hn : n = bs.length) (hx : Boxes w w.heap.size A bs) (hb : ∀ b ∈ bs, OkB b) :
    Calls Try.prog 5 #[.slice A n c] w fun r w' => r = .returned (.bool true) ∧ Below w.heap.size w w' := by
  by_cases h : n ≤ 100
  · obtain ⟨a, e, hc⟩ : ∃ a e, chk bs = (a, e) := ⟨_, _, rfl⟩
    by_cases he : e = 0
    · subst he
      obtain ⟨-, h0, hf⟩ := chk_ok hn hc
      exact laws_yes hT A n c bs w hn h h0 hx hb hf
    · exact laws_no hT A n c bs w a e hn h hx hc he
  · exact laws_long hT A n c w h

end

end Go.Proofs.Ytmmmlegjhblfaaa.Tree
