/- The law of boxes of Auto that fill just what they stand in. -/
import Derived.Test.YtnmfgcdenngpfaaPart10
import Derived.Test.YtnmfgcdenngpfaaPart9
import Derived.Laws.StructEq
namespace Go.Proofs.Ytnmfgcdenngpfaa.Width
open Go.RowKit Go.Sort Go.Proofs.Ytnmfgcdenngpfaa.Record Go.Proofs.Ytnmfgcdenngpfaa.Script Go.Proofs.Ytnmfgcdenngpfaa.Tree Go.Proofs.Ytnmfgcdenngpfaa.More

theorem eqSp_same (a b : Int) (w : World) : (Op.equalIn 10000 41 (.agg #[.int .i64 a, .int .i64 b]) (.agg #[.int .i64 a, .int .i64 b])).run Try.prog w = .ok true w := by
  have u3 := Try.underlying3
  have a3 := Try.isAgg3
  have z3 := Try.sizeOf3
  have hS : Try.prog.underlying 41 = some (.struct (Try.prog.fieldsOf 41)) := by kernel_rfl
  rw [show (10000 : Nat) = 9999 + 1 from rfl, run_equalIn_agg w 9999 41 _ _ hS (by kernel_rfl)]
  simp only [Program.fieldsOf, Try.underlying41]
  go_simp

theorem least_w {b : Bx} (h : pickN (brokenOf b) = 0) : -1 ≤ b.w := by
  have h1 := ((good_iff b).1 h).z
  unfold sizeB at h1
  simp only [Bool.or_eq_false_iff, decide_eq_false_iff_not] at h1
  have := h1.1.1.1
  omega

/-- The cells of a list's span, wherever it still lies. -/
theorem span_f {w : World} {B g n c : Nat} {bs : List Bx} (h : MineE encSp 41 w B (some ⟨g, 0, none⟩) n c (spsD bs)) (hg : g < w.heap.size) {k : Nat} (hk : k < bs.length) {f : Int} (hf : lefD bs k = f) : ∀ w', Below w.heap.size w w' → w'.cell? ⟨g, k * 2, none⟩ = some (.int .i64 f) := fun w' j => by
  have := (j.cell (p := ⟨g, k * 2, none⟩) hg).trans (h.at k _ (spsD_at hk) 0 (by decide))
  rw [← hf]; exact this
theorem span_t {w : World} {B g n c : Nat} {bs : List Bx} (h : MineE encSp 41 w B (some ⟨g, 0, none⟩) n c (spsD bs)) (hg : g < w.heap.size) {k : Nat} (hk : k < bs.length) {f d z : Int} (hf : lefD bs k = f) (hd : widD bs k = d) (hz : f + d = z) : ∀ w', Below w.heap.size w w' → w'.cell? ⟨g, k * 2 + 1, none⟩ = some (.int .i64 z) := fun w' j => by
  have := (j.cell (p := ⟨g, k * 2 + 1, none⟩) hg).trans (h.at k _ (spsD_at hk) 1 (by decide))
  rw [← hz, ← hf, ← hd]; exact this

section
variable {T : World → Addr → List Bx → Prop}

set_option maxRecDepth 100000 in
set_option maxHeartbeats 1000000 in
theorem fits_long (hO : WidthOk T) (A : Option Addr) (n c : Nat) (w : World) (hl : 100 < n) :
    Calls Try.prog 5 #[.slice A n c] w fun e w' => e = .returned (.bool true) ∧ Below w.heap.size w w' := by
  have hl1 : (100 : Int) < (n : Int) := by omega
  clear hl
  go_enter Try.func5, Try.ntmps5
  go_upto_region 2 with (first
    | (go_at_call 7; refine (dspeaks hO _).mono ?_; rintro e w1 ⟨rfl, k1⟩; have K1 := Lib.hid k1; clear k1))
  go_wp2_with (first
    | (go_at_call 7; refine (dspeaks hO _).mono ?_; rintro e w2 ⟨rfl, k2⟩; have K2 := Lib.hid (thru K1.out k2); clear k2))
  go_ret
  exact ⟨rfl, K2.out⟩

set_option maxRecDepth 100000 in
set_option maxHeartbeats 1000000 in
theorem fits_wrong (hO : WidthOk T) (A : Option Addr) (n c : Nat) (bs : List Bx) (w : World) (hn : n = bs.length) (hlen : n ≤ 100) (hx : Boxes w w.heap.size A bs) (a e : Int) (hc : chk bs = (a, e)) (he : e ≠ 0) :
    Calls Try.prog 5 #[.slice A n c] w fun e w' => e = .returned (.bool true) ∧ Below w.heap.size w w' := by
  have HRF := Lib.hid (fun w1 (k : Below w.heap.size w w1) => refchk_any A n c bs a e w1 hn (by omega) (hx.thru k) hc)
  have hl : ¬ (100 : Int) < (n : Int) := by omega
  have he' : (e != 0) = true := by simp [he]
  clear hx hn hc he
  go_enter Try.func5, Try.ntmps5
  go_wp2_with (first
    | (go_at_call 7; refine (dspeaks hO _).mono ?_; rintro e w1 ⟨rfl, k1⟩; have K1 := Lib.hid k1; clear k1)
    | (go_at_call 17; refine (HRF.out _ K1.out).mono ?_; rintro e w2 ⟨rfl, k2⟩; have K2 := Lib.hid (thru K1.out k2); clear k2))
  go_ret
  exact ⟨rfl, K2.out⟩

set_option maxRecDepth 100000 in
set_option maxHeartbeats 8000000 in
theorem fits_yes (hT : TreeOk T) (hO : WidthOk T) (A : Option Addr) (n c : Nat) (bs : List Bx) (w : World) (hn : n = bs.length) (hlen : n ≤ 100) (h0 : 0 < n) (hx : Boxes w w.heap.size A bs) (hb : ∀ b ∈ bs, OkB b) (hc : chk bs = (-1, 0)) (hs : Shape (dOf bs) bs.length) (hf : Fine bs n) :
    Calls Try.prog 5 #[.slice A n c] w fun e w' => e = .returned (.bool true) ∧ Below w.heap.size w w' := by
  obtain ⟨ad, rfl, hab, -⟩ := hx 0 (by omega)
  obtain ⟨y0, hy0⟩ : ∃ y0, bs.getD 0 noB = y0 := ⟨_, rfl⟩
  have HA0 : Hid (∀ w', Below w.heap.size w w' → AtP w' ad y0) := Lib.hid (fun w' k => by
    have := boxes_at hx (by omega) hy0 w' k
    rwa [show ad.add (0 * 14) = ad by simp [Addr.add]] at this)
  have hr := fine_root hf h0
  have hl00 : lefD bs 0 = 0 := lefD_self (by unfold selfB openB; rw [hr.1]; rfl)
  have hw00 : widD bs 0 = y0.w := by
    have := par_bounds (dOf bs) 0
    rw [widD_top (by omega), hy0]
  have HL0 := Lib.hid hl00
  have HW0 := Lib.hid hw00
  clear hr hl00 hw00 hy0
  have HX := Lib.hid hx
  have HN := Lib.hid hn
  have HF := Lib.hid hf
  have HS := Lib.hid hs
  have HRF := Lib.hid (fun w1 (k : Below w.heap.size w w1) => refchk_any (some ad) n c bs (-1) 0 w1 hn (by omega) (hx.thru k) hc)
  have HG := Lib.hid (fun w1 (k : Below w.heap.size w w1) => begin_some hT (some ad) n c bs w1 hn (by omega) h0 (hx.thru k) hb hf)
  have HFr := Lib.hid (fun w3 p (h : T w3 p bs) => hO.frames w3 p bs h (by omega) hs (by rw [← hn]; exact hf))
  rw [← hn] at HFr
  have hl : ¬ (100 : Int) < (n : Int) := by omega
  clear hx hn hb hf hs hc
  have hn0 : (0 : Int) < (n : Int) := by omega
  go_enter Try.func5, Try.ntmps5
  go_upto_region 10 with (first
    | (go_at_call 7; refine (dspeaks hO _).mono ?_; rintro e w1 ⟨rfl, k1⟩; have K1 := Lib.hid k1; clear k1)
    | (go_at_call 17; refine (HRF.out _ K1.out).mono ?_; rintro e w2 ⟨rfl, k2⟩; have K2 := Lib.hid (thru K1.out k2); clear k2)
    | (go_at_call 18; refine (HG.out _ K2.out).mono ?_; rintro e w3 ⟨⟨p, rfl, ht⟩, k3⟩; have HT3 := Lib.hid ht; have K3 := Lib.hid (thru K2.out k3); clear k3 ht)
    | (go_at_call 19; refine (HFr.out _ _ HT3.out).mono ?_; rintro e w4 ⟨⟨A4, c4, rfl, h4⟩, k4⟩; have M4 := Lib.hid h4; have K4 := Lib.hid (thru K3.out k4); have hB4 := k4.size; have K34 := Lib.hid k4; clear k4 h4))
  obtain ⟨g, rfl, hg1, hg2, -, -⟩ := M4.out.form h0
  have e0 : w4.cell? ⟨g, 0, none⟩ = some (.int .i64 0) := by
    have := span_f M4.out hg2 (k := 0) (by rw [← HN.out]; exact h0) HL0.out w4 (Below.refl _ _)
    simpa using this
  have e1 : w4.cell? ⟨g, 1, none⟩ = some (.int .i64 y0.w) := by
    have := span_t M4.out hg2 (k := 0) (by rw [← HN.out]; exact h0) HL0.out HW0.out (Int.zero_add _) w4 (Below.refl _ _)
    simpa using this
  refine Hold.wp_region_hold [.val (.slice (some ⟨g, 0, none⟩) n c4), .val (.int .i64 (n : Int)), .val (.slice (some ad) n c), .val (.int .i64 (n : Int)), .val (.bool false), .val (.bool false), .val (.slice (some ⟨g, 0, none⟩) n c4), .val (.pointer (some ⟨g, 0, none⟩)), .val (.agg #[.int .i64 0, .int .i64 y0.w]), .val (.slice (some ad) n c), .val (.pointer (some ad)), .val (.pointer (some ⟨ad.block, ad.off + 4, none⟩)), .val (.int .i64 y0.w), .val (.agg #[.int .i64 0, .int .i64 y0.w]), .val (.bool false)] (by kernel_rfl) (by kernel_rfl) (by kernel_rfl) ?_ ?_
  · simp only [Hold.fill, Hold.Leave.value]
    refine ⟨?_, ?_, ?_, ?_, ?_, ?_, ?_, ?_, ?_, ?_, ?_, ?_, ?_, ?_, ?_, trivial⟩
    · intro gg w' hw hk
      go_simp
      exact ⟨rfl, rfl⟩
    · intro gg w' hw hk
      go_simp
      exact ⟨rfl, rfl⟩
    · intro gg w' hw hk
      go_simp
      exact ⟨rfl, rfl⟩
    · intro gg w' hw hk
      go_simp
      exact ⟨rfl, rfl⟩
    · intro gg w' hw hk
      go_simp
      exact ⟨rfl, rfl⟩
    · intro gg w' hw hk
      go_simp
      exact ⟨rfl, rfl⟩
    · intro gg w' hw hk
      go_simp
      exact ⟨rfl, rfl⟩
    · intro gg w' hw hk
      go_simp
      exact ⟨rfl, rfl⟩
    · intro gg w' hw hk
      have q0 := (hw.cell (p := ⟨g, 0, none⟩) hg2).trans e0
      have q1 := (hw.cell (p := ⟨g, 1, none⟩) hg2).trans e1
      go_simp
      exact ⟨rfl, rfl⟩
    · intro gg w' hw hk
      go_simp
      exact ⟨rfl, rfl⟩
    · intro gg w' hw hk
      go_simp
      exact ⟨rfl, rfl⟩
    · intro gg w' hw hk
      go_simp
      exact ⟨rfl, rfl⟩
    · intro gg w' hw hk
      have c4 := atp4 (HA0.out w' (thru K4.out hw))
      go_simp
      exact ⟨rfl, rfl⟩
    · intro gg w' hw hk
      go_simp
      exact ⟨rfl, rfl⟩
    · intro gg w' hw hk
      have EQ := eqSp_same 0 y0.w w'
      go_simp
      exact ⟨rfl, rfl⟩
  intro gg w2 k2 hgg
  clear hgg
  simp only [Hold.fill, Hold.Leave.value, List.length_cons, List.length_nil, List.drop_succ_cons, List.drop_zero]
  have KW := Lib.hid k2
  clear k2 e0 e1
  go_wp2_with fail
  go_loopw [7] (fun t wr => ∃ i : Nat, 1 ≤ i ∧ i ≤ n ∧ t = .int .i64 (i : Int) ∧ Hid (Below w4.heap.size w4 wr)) (fun t _ => n - (intOf t).toNat)
  case atStart => exact ⟨1, Nat.le_refl _, h0, rfl, KW⟩
  case round =>
    clear KW
    obtain ⟨i, hi1, hi2, rfl, H⟩ := hrel
    by_cases hlt : i < n
    · have hki : (i : Int) < (n : Int) := by omega
      have hk0 : ¬ (i : Int) < 0 := by omega
      have hkl : i < bs.length := by rw [← HN.out]; exact hlt
      have hF : Fine bs bs.length := by rw [← HN.out]; exact HF.out
      obtain ⟨p1, hp1, hpi, -, -⟩ := HS.out.parent i (by omega) hkl
      have hpl : p1 < bs.length := by omega
      have hwb := wide_bound HS.out hF (i + 1) i (by omega) hkl
      have hlb := left_bound HS.out hF (i + 1) i (by omega) hkl
      have hwp := wide_bound HS.out hF (p1 + 1) p1 (by omega) hpl
      have hlp := left_bound HS.out hF (p1 + 1) p1 (by omega) hpl
      obtain ⟨y, hy⟩ : ∃ y, bs.getD i noB = y := ⟨_, rfl⟩
      obtain ⟨lf, hlf⟩ : ∃ lf, lefD bs i = lf := ⟨_, rfl⟩
      obtain ⟨d, hd⟩ : ∃ d, widD bs i = d := ⟨_, rfl⟩
      obtain ⟨z, hz⟩ : ∃ z, lf + d = z := ⟨_, rfl⟩
      obtain ⟨lp, hlpe⟩ : ∃ lp, lefD bs p1 = lp := ⟨_, rfl⟩
      obtain ⟨x, hxe⟩ : ∃ x, widD bs p1 = x := ⟨_, rfl⟩
      obtain ⟨zp, hzp⟩ : ∃ zp, lp + x = zp := ⟨_, rfl⟩
      have hgood : pickN (brokenOf y) = 0 := by rw [← hy]; exact HF.out.check hlt
      have hcz : d = conZ y x := by rw [← hd, widD_in hp1, hy, hxe]
      have HSp := Lib.hid (span_f M4.out hg2 hpl hlpe)
      have HSq := Lib.hid (span_t M4.out hg2 hpl hlpe hxe hzp)
      have HSi := Lib.hid (span_f M4.out hg2 hkl hlf)
      have HSj := Lib.hid (span_t M4.out hg2 hkl hlf hd hz)
      rw [hlf] at hlb
      rw [hd] at hwb
      rw [hlpe] at hlp
      rw [hxe] at hwp
      have HLi := Lib.hid (fun w => slen_is lf z d (by omega) (by omega) (by omega) w)
      have HLp := Lib.hid (fun w => slen_is lp zp x (by omega) (by omega) (by omega) w)
      have HBx := Lib.hid (fun Y (j : Below w4.heap.size w4 Y) => hT.box Y p bs (i : Int) (hT.keep _ _ _ _ HT3.out (thru K34.out j)))
      have HPa := Lib.hid (fun Y (j : Below w4.heap.size w4 Y) => hT.parent Y p bs (i : Int) (hT.keep _ _ _ _ HT3.out (thru K34.out j)))
      rw [boxT_nat hkl, hy] at HBx
      rw [parT_nat hkl, hp1] at HPa
      have hpn : (p1 : Int) < (n : Int) := by omega
      have hp0 : ¬ (p1 : Int) < 0 := by omega
      have hd0 : ¬ d < 0 := by omega
      have hw1 := least_w hgood
      have HMd := Lib.hid (fun w => hO.mar y d w hgood (okX_iff.2 (by omega)))
      have HM0 := Lib.hid (fun w => hO.mar y 0 w hgood (by decide))
      have hsd := sideZ_bound (small_of hgood)
      unfold marZ at HMd HM0
      obtain ⟨s, hs⟩ : ∃ s, sideZ y = s := ⟨_, rfl⟩
      unfold conZ at hcz
      rw [hs] at HMd HM0 hcz hsd
      clear hp1 hwb hlb hwp hlp hy hlf hd hz hlpe hxe hzp hgood hF hkl hpl hs
      by_cases ca : 0 ≤ y.w
      · rw [if_pos ca] at hcz
        have hne : (y.w != -1) = true := by rw [bne_iff_ne]; omega
        have heq : (y.w == -1) = false := by rw [beq_eq_false_iff_ne]; omega
        have hdw : (d != y.w) = false := by simp [hcz]
        clear HMd HM0 ca hcz hsd hw1
        go_upto_region 16 with (first
          | (go_at_call 23; refine (HBx.out _ H.out).mono ?_; rintro e w5 ⟨rfl, k5⟩; have K5 := Lib.hid (thru H.out k5); clear k5)
          | (go_at_call 24; refine (HPa.out _ K5.out).mono ?_; rintro e w6 ⟨rfl, k6⟩; have K6 := Lib.hid (thru K5.out k6); have s0 := HSp.out w6 K6.out; have s1 := HSq.out w6 K6.out; clear k6)
          | (go_at_call 21; with_reducible refine (HLp.out _).mono ?_; rintro e w7 ⟨rfl, k7⟩; have K7 := Lib.hid (thru K6.out k7); clear k7 s0 s1))
        generalize hW : World.alloc w7 _ = W
        obtain ⟨hat, hbW⟩ := box_in y hW
        have hsz : w7.heap.size < W.heap.size := by rw [← hW]; simp
        have HA := Lib.hid hat
        have HbW := Lib.hid hbW
        have t0 := HSi.out W (thru K7.out hbW)
        have t1 := HSj.out W (thru K7.out hbW)
        clear hW hat hbW
        go_upto_region 17 with (first
          | (go_at_call 21; with_reducible refine (HLi.out _).mono ?_; rintro e w8 ⟨rfl, k8⟩; have K8 := Lib.hid k8; clear k8))
        clear t0 t1
        obtain ⟨d0, d1, d2, d3, d4, d5, d6, d7, d8, d9, d10, d11, d12, d13⟩ := HA.out.below hsz K8.out
        have hl8 := Nat.lt_of_lt_of_le hsz K8.out.size
        clear HA
        go_wp2_with fail
        have HR := Lib.hid (thru (thru K7.out HbW.out) K8.out)
        go_roundw
        case rel => exact ⟨i + 1, by omega, by omega, by go_num, HR⟩
        case measure => simp [intOf]; omega
      · rw [if_neg ca] at hcz
        have hwe : y.w = -1 := by omega
        have hne : (y.w != -1) = false := by simp [hwe]
        have heq : (y.w == -1) = true := by simp [hwe]
        by_cases cb : x - s < 0
        · rw [if_pos cb] at hcz
          rw [hcz] at HMd HLi
          rw [Int.zero_add] at HMd HM0
          have hsx : (s != x) = true := by rw [bne_iff_ne]; omega
          have hlx : ¬ s < x := by omega
          clear hsd hw1 ca cb hwe hd0 hcz
          go_upto_region 16 with (first
            | (go_at_call 23; refine (HBx.out _ H.out).mono ?_; rintro e w5 ⟨rfl, k5⟩; have K5 := Lib.hid (thru H.out k5); clear k5)
            | (go_at_call 24; refine (HPa.out _ K5.out).mono ?_; rintro e w6 ⟨rfl, k6⟩; have K6 := Lib.hid (thru K5.out k6); have s0 := HSp.out w6 K6.out; have s1 := HSq.out w6 K6.out; clear k6)
            | (go_at_call 21; with_reducible refine (HLp.out _).mono ?_; rintro e w7 ⟨rfl, k7⟩; have K7 := Lib.hid (thru K6.out k7); clear k7 s0 s1))
          generalize hW : World.alloc w7 _ = W
          obtain ⟨hat, hbW⟩ := box_in y hW
          have hsz : w7.heap.size < W.heap.size := by rw [← hW]; simp
          have HA := Lib.hid hat
          have HbW := Lib.hid hbW
          have t0 := HSi.out W (thru K7.out hbW)
          have t1 := HSj.out W (thru K7.out hbW)
          clear hW hat hbW
          go_upto_region 17 with (first
            | (go_at_call 21; with_reducible refine (HLi.out _).mono ?_; rintro e w8 ⟨rfl, k8⟩; have K8 := Lib.hid k8; clear k8))
          clear t0 t1
          obtain ⟨d0, d1, d2, d3, d4, d5, d6, d7, d8, d9, d10, d11, d12, d13⟩ := HA.out.below hsz K8.out
          have hl8 := Nat.lt_of_lt_of_le hsz K8.out.size
          go_wp2_with (first
            | (go_at_call 15; refine (HMd.out _).mono ?_; rintro e w9 ⟨rfl, k9⟩; obtain ⟨hc, -⟩ := bcell k9; have f0 := (hc _ 0 hl8).trans d0; have f1 := (hc _ 1 hl8).trans d1; have f2 := (hc _ 2 hl8).trans d2; have f3 := (hc _ 3 hl8).trans d3; have f4 := (hc _ 4 hl8).trans d4; have f5 := (hc _ 5 hl8).trans d5; have f6 := (hc _ 6 hl8).trans d6; have f7 := (hc _ 7 hl8).trans d7; have f8 := (hc _ 8 hl8).trans d8; have f9 := (hc _ 9 hl8).trans d9; have f10 := (hc _ 10 hl8).trans d10; have f11 := (hc _ 11 hl8).trans d11; have f12 := (hc _ 12 hl8).trans d12; have f13 := (hc _ 13 hl8).trans d13; have K9 := Lib.hid (thru K8.out k9); clear hc k9 d0 d1 d2 d3 d4 d5 d6 d7 d8 d9 d10 d11 d12 d13)
            | (go_at_call 15; refine (HM0.out _).mono ?_; rintro e w10 ⟨rfl, k10⟩; have K10 := Lib.hid (thru K9.out k10); clear k10))
          have HR := Lib.hid (thru (thru K7.out HbW.out) K10.out)
          go_roundw
          case rel => exact ⟨i + 1, by omega, by omega, by go_num, HR⟩
          case measure => simp [intOf]; omega
        · rw [if_neg cb] at hcz
          have hsx : (x != x) = false := by simp
          rw [show d + s = x by omega] at HMd
          clear hsd hw1 ca cb hwe hcz HM0
          go_upto_region 16 with (first
            | (go_at_call 23; refine (HBx.out _ H.out).mono ?_; rintro e w5 ⟨rfl, k5⟩; have K5 := Lib.hid (thru H.out k5); clear k5)
            | (go_at_call 24; refine (HPa.out _ K5.out).mono ?_; rintro e w6 ⟨rfl, k6⟩; have K6 := Lib.hid (thru K5.out k6); have s0 := HSp.out w6 K6.out; have s1 := HSq.out w6 K6.out; clear k6)
            | (go_at_call 21; with_reducible refine (HLp.out _).mono ?_; rintro e w7 ⟨rfl, k7⟩; have K7 := Lib.hid (thru K6.out k7); clear k7 s0 s1))
          generalize hW : World.alloc w7 _ = W
          obtain ⟨hat, hbW⟩ := box_in y hW
          have hsz : w7.heap.size < W.heap.size := by rw [← hW]; simp
          have HA := Lib.hid hat
          have HbW := Lib.hid hbW
          have t0 := HSi.out W (thru K7.out hbW)
          have t1 := HSj.out W (thru K7.out hbW)
          clear hW hat hbW
          go_upto_region 17 with (first
            | (go_at_call 21; with_reducible refine (HLi.out _).mono ?_; rintro e w8 ⟨rfl, k8⟩; have K8 := Lib.hid k8; clear k8))
          clear t0 t1
          obtain ⟨d0, d1, d2, d3, d4, d5, d6, d7, d8, d9, d10, d11, d12, d13⟩ := HA.out.below hsz K8.out
          have hl8 := Nat.lt_of_lt_of_le hsz K8.out.size
          go_wp2_with (first
            | (go_at_call 15; refine (HMd.out _).mono ?_; rintro e w9 ⟨rfl, k9⟩; obtain ⟨hc, -⟩ := bcell k9; have f0 := (hc _ 0 hl8).trans d0; have f1 := (hc _ 1 hl8).trans d1; have f2 := (hc _ 2 hl8).trans d2; have f3 := (hc _ 3 hl8).trans d3; have f4 := (hc _ 4 hl8).trans d4; have f5 := (hc _ 5 hl8).trans d5; have f6 := (hc _ 6 hl8).trans d6; have f7 := (hc _ 7 hl8).trans d7; have f8 := (hc _ 8 hl8).trans d8; have f9 := (hc _ 9 hl8).trans d9; have f10 := (hc _ 10 hl8).trans d10; have f11 := (hc _ 11 hl8).trans d11; have f12 := (hc _ 12 hl8).trans d12; have f13 := (hc _ 13 hl8).trans d13; have K9 := Lib.hid (thru K8.out k9); clear hc k9 d0 d1 d2 d3 d4 d5 d6 d7 d8 d9 d10 d11 d12 d13))
          have HR := Lib.hid (thru (thru K7.out HbW.out) K9.out)
          go_roundw
          case rel => exact ⟨i + 1, by omega, by omega, by go_num, HR⟩
          case measure => simp [intOf]; omega
    · obtain rfl : i = n := by omega
      go_wp2_with fail
      go_ret
      exact ⟨rfl, thru K4.out H.out⟩

theorem fits_any (hT : TreeOk T) (hO : WidthOk T) (A : Option Addr) (n c : Nat) (bs : List Bx) (w : World) (hn : n = bs.length) (hx : Boxes w w.heap.size A bs) (hb : ∀ b ∈ bs, OkB b) :
    Calls Try.prog 5 #[.slice A n c] w fun e w' => e = .returned (.bool true) ∧ Below w.heap.size w w' := by
  rcases list_or bs n hn with h | ⟨h, a, e, hc, he⟩ | ⟨h, h0, hc, hs, hf⟩
  · exact fits_long hO A n c w h
  · exact fits_wrong hO A n c bs w hn h hx a e hc he
  · exact fits_yes hT hO A n c bs w hn h h0 hx hb hc hs hf
end

end Go.Proofs.Ytnmfgcdenngpfaa.Width
