/- The law: looking past a box that has no clear; a top edge; a height. -/
import Derived.Test.YtfomhdhiibcdfaaPart29
import Derived.Test.YtfomhdhiibcdfaaPart49
namespace Go.Proofs.Ytfomhdhiibcdfaa.Ahead
open Go.RowKit Go.Sort Go.Proofs.Ytfomhdhiibcdfaa.More Go.Proofs.Ytfomhdhiibcdfaa.Record Go.Proofs.Ytfomhdhiibcdfaa.Script Go.Proofs.Ytfomhdhiibcdfaa.Tree Go.Proofs.Ytfomhdhiibcdfaa.Shelf Go.Proofs.Ytfomhdhiibcdfaa.Space Go.Proofs.Ytfomhdhiibcdfaa.Spot
set_option linter.unusedVariables false
set_option linter.unusedSimpArgs false

section
variable {T : World → Addr → List Bx → Prop} {S : World → (Nat → Prop) → Addr → List Fl → Prop}

private theorem keepS (hS : SpaceOk S) {w w' : World} {F : Nat → Prop} {p : Addr} {fs : List Fl} (h : S w F p fs) (k : Below w.heap.size w w') : S w' F p fs :=
  hS.keep _ _ _ _ _ _ h (But.of_below (S := fun _ => False) k) (fun _ _ h => h)

set_option maxRecDepth 100000 in
set_option maxHeartbeats 800000 in
theorem past_no (hT : TreeOk T) (hS : SpaceOk S) (hA : AheadOk T S) (AL : Option Addr) (nL cL : Nat) (bs : List Bx) (AF : Option Addr) (nF cF : Nat) (fs : List Fl) (y : Int) (A : Option Addr) (n c : Nat) (ms : List Int) (spn l r : Bool) (at8 : Int) (w : World)
    (hB : ∀ w', Below w.heap.size w w' → Calls Try.prog 9 #[.slice AL nL cL, .slice AF nF cF, fromV y A n c spn l r] w' fun r w'' => r = .returned (.tuple #[.pointer none, .pointer none]) ∧ Below w'.heap.size w' w'') :
    Calls Try.prog 4 #[.slice AL nL cL, .slice AF nF cF, fromV y A n c spn l r, .int .u8 at8] w fun e w' => e = .returned (.bool true) ∧ Below w.heap.size w w' := by
  have HBe := Lib.hid hB
  clear hB
  go_enter Try.func4, Try.ntmps4
  go_wp2_with (first
    | (go_at_call 9; refine (HBe.out _ (ba1 w _)).mono ?_; rintro e w1 ⟨rfl, k1⟩; have K1 := Lib.hid (thru (ba1 w _) k1); clear k1)
    | (go_at_call 6; with_reducible refine (hspeaks hT hS hA w1).mono ?_; rintro e w2 ⟨rfl, k2⟩; have K2 := Lib.hid (thru K1.out k2); clear k2)
    | (go_at_call 6; with_reducible refine (hspeaks hT hS hA w2).mono ?_; rintro e w3 ⟨rfl, k3⟩; have K3 := Lib.hid (thru K2.out k3); clear k3))
  go_ret
  exact ⟨rfl, K3.out⟩

set_option maxRecDepth 100000 in
set_option maxHeartbeats 4000000 in
theorem past_yes (hT : TreeOk T) (hS : SpaceOk S) (hA : AheadOk T S) (ad0 : Addr) (nL cL : Nat) (bs : List Bx) (AF : Option Addr) (nF cF : Nat) (fs : List Fl) (y : Int) (A : Option Addr) (n c : Nat) (ms : List Int) (spn l r : Bool) (at8 : Int) (w : World) (ha8 : 0 ≤ at8 ∧ at8 ≤ 255)
    (hB : ∀ w', Below w.heap.size w w' → Calls Try.prog 9 #[.slice (some ad0) nL cL, .slice AF nF cF, fromV y A n c spn l r] w' fun r w'' => (∃ tp p F, r = .returned (.tuple #[.pointer (some tp), .pointer (some p)]) ∧ T w'' tp bs ∧ S w'' F p fs ∧ ∀ k, F k → w'.heap.size ≤ k) ∧ Below w'.heap.size w' w'')
    (hW : Wood bs) (hnear : fs.all nearF = true) (hl0 : 0 < bs.length) (hl60 : bs.length ≤ 60) (hs : Slim 20 (⟨⟨y, ms, false, spn⟩, l, r, false⟩ : Rl)) (hh : Held w A n c ms) (hL : Boxes w w.heap.size (some ad0) bs) (hnL : nL = bs.length) :
    Calls Try.prog 4 #[.slice (some ad0) nL cL, .slice AF nF cF, fromV y A n c spn l r, .int .u8 at8] w fun e w' => e = .returned (.bool true) ∧ Below w.heap.size w w' := by
  obtain ⟨P, hP⟩ : ∃ P, Strut.mostOf ms = P := ⟨_, rfl⟩
  obtain ⟨Q, hQ⟩ : ∃ Q, Strut.leastOf ms = Q := ⟨_, rfl⟩
  obtain ⟨D, hD⟩ : ∃ D, sidesI l r = D := ⟨_, rfl⟩
  have hsp : (⟨y, ms, false, spn⟩ : Rp).sp = ⟨y, P, Q, false, spn⟩ := by unfold Rp.sp; rw [hP, hQ]
  have hpv : ∀ e, Rl.pv ⟨⟨y, ms, false, spn⟩, l, r, e⟩ = lpv ⟨y, P, Q, false, spn⟩ D e := fun e => by unfold Rl.pv; rw [hsp, hD]
  have HTo := Lib.hid (fun w' (j : Below w.heap.size w w') => by
    have q := hto_any ⟨⟨y, ms, false, spn⟩, l, r, false⟩ A n c w' (hh.below j) (hs.fine (by omega))
    rw [hpv] at q
    exact q)
  obtain ⟨k, hk⟩ : ∃ k : Nat, at8.tmod (nL : Int) = k := ⟨(at8.tmod nL).toNat, (Int.toNat_of_nonneg (Int.tmod_nonneg _ ha8.1)).symm⟩
  have hkn : k < nL := by have := Int.tmod_lt_of_pos at8 (show (0 : Int) < (nL : Int) by omega); omega
  have hkb : k < bs.length := by omega
  obtain ⟨b, hb⟩ : ∃ b, bs.getD k noB = b := ⟨_, rfl⟩
  obtain ⟨ad1, hA1, hadB, hat⟩ := hL k hkb
  obtain rfl : ad0 = ad1 := by injection hA1
  rw [hb] at hat
  have hbk : asks bs (k : Int) = (b.k == 1 || b.k == 4) := by unfold asks; rw [boxT_nat hkb, hb]; simp [hasT_nat hkb]
  have HAt := Lib.hid (fun w' (j : Below w.heap.size w w') => (by
    obtain ⟨ad2, hA2, -, q⟩ := (hL.thru j) k hkb
    obtain rfl : ad0 = ad2 := by injection hA2
    rw [hb] at q
    exact q))
  clear hA1 hadB hat
  obtain ⟨RI, hRI⟩ : ∃ R, intoF bs fs bs.length k ⟨⟨y, ms, false, spn⟩, l, r, false⟩ = R := ⟨_, rfl⟩
  obtain ⟨RP, hRP⟩ : ∃ R, pastF bs fs bs.length k ⟨⟨y, ms, false, spn⟩, l, r, false⟩ = R := ⟨_, rfl⟩
  obtain ⟨⟨iy, ip, iq, ih, isp⟩, his⟩ : ∃ S, RI.x.sp = S := ⟨_, rfl⟩
  obtain ⟨iD, hid⟩ : ∃ D, sidesI RI.l RI.r = D := ⟨_, rfl⟩
  obtain ⟨ie, hie⟩ : ∃ e, RI.e = e := ⟨_, rfl⟩
  have hiv : Rl.pv RI = lpv ⟨iy, ip, iq, ih, isp⟩ iD ie := by unfold Rl.pv; rw [his, hid, hie]
  obtain ⟨⟨py, pp, pq, ph, psp⟩, hps⟩ : ∃ S, RP.x.sp = S := ⟨_, rfl⟩
  obtain ⟨pD, hpd⟩ : ∃ D, sidesI RP.l RP.r = D := ⟨_, rfl⟩
  obtain ⟨pe, hpe⟩ : ∃ e, RP.e = e := ⟨_, rfl⟩
  have hpv' : Rl.pv RP = lpv ⟨py, pp, pq, ph, psp⟩ pD pe := by unfold Rl.pv; rw [hps, hpd, hpe]
  obtain ⟨⟨wy, wp, wq, wh, ws⟩, hw0⟩ : ∃ S, withS ⟨y, P, Q, false, spn⟩ b.m0 = S := ⟨_, rfl⟩
  obtain ⟨⟨vy, vp, vq, vh, vs⟩, hv0⟩ : ∃ S, withS ⟨iy, ip, iq, ih, isp⟩ b.m2 = S := ⟨_, rfl⟩
  have HW0 := Lib.hid (fun w' => by have z := gwith_any ⟨y, P, Q, false, spn⟩ b.m0 w'; rw [hw0] at z; exact z)
  have HV0 := Lib.hid (fun w' => by have z := gwith_any ⟨iy, ip, iq, ih, isp⟩ b.m2 w'; rw [hv0] at z; exact z)
  -- what the law says of these letters
  have HE := Lib.hid (show 0 < b.e0 → iy = wy ∧ ip = wp ∧ iq = wq ∧ ih = wh ∧ isp = ws ∧ iD = D ∧ ie = true from fun h => by
    have z := into_edge (bs := bs) (fs := fs) k bs.length (by rw [hb]; exact h) ⟨⟨y, ms, false, spn⟩, l, r, false⟩
    rw [hRI, hb] at z
    subst z
    have z1 : withS ⟨y, P, Q, false, spn⟩ b.m0 = ⟨iy, ip, iq, ih, isp⟩ := by rw [← hsp, ← withR_sp]; exact his
    rw [hw0] at z1
    injection z1 with a1 a2 a3 a4 a5
    exact ⟨a1.symm, a2.symm, a3.symm, a4.symm, a5.symm, hid.symm.trans hD, hie.symm⟩)
  have HH := Lib.hid (show 0 ≤ b.h → ie = true from fun h => by
    have z := into_high (bs := bs) (fs := fs) k bs.length (by rw [hb]; exact h) ⟨⟨y, ms, false, spn⟩, l, r, false⟩
    rw [hRI, hie] at z
    exact z)
  have HC1 := Lib.hid (show b.c = 0 → ie = true → iy = py ∧ ip = pp ∧ iq = pq ∧ ih = ph ∧ isp = psp ∧ iD = pD ∧ ie = pe from fun h h1 => by
    have z := past_plain (bs := bs) (fs := fs) k hkb (by rw [hb]; exact h) bs.length (by omega) ⟨⟨y, ms, false, spn⟩, l, r, false⟩
    rw [hRI, hRP, if_pos (hie.trans h1)] at z
    subst z
    have z1 := his.symm.trans hps
    injection z1 with a1 a2 a3 a4 a5
    exact ⟨a1, a2, a3, a4, a5, hid.symm.trans hpd, hie.symm.trans hpe⟩)
  have HC2 := Lib.hid (show b.c = 0 → ie = false → vy = py ∧ vp = pp ∧ vq = pq ∧ vh = ph ∧ vs = psp ∧ iD = pD ∧ ie = pe from fun h h1 => by
    have z := past_plain (bs := bs) (fs := fs) k hkb (by rw [hb]; exact h) bs.length (by omega) ⟨⟨y, ms, false, spn⟩, l, r, false⟩
    rw [hRI, hRP, if_neg (by rw [hie, h1]; simp), hb] at z
    subst z
    have z1 : withS ⟨iy, ip, iq, ih, isp⟩ b.m2 = ⟨py, pp, pq, ph, psp⟩ := by rw [← his, ← withR_sp]; exact hps
    rw [hv0] at z1
    injection z1 with a1 a2 a3 a4 a5
    exact ⟨a1, a2, a3, a4, a5, hid.symm.trans hpd, hie.symm.trans hpe⟩)
  have HCi := Lib.hid (fun (hak : (b.k == 1 || b.k == 4) = true) F tp p w' (ht : T w' tp bs) (hs' : S w' F p fs) => by
    have q := hA.into w' tp F p bs fs (k : Int) ⟨⟨y, ms, false, spn⟩, l, r, false⟩ 20 ht hs' hW hnear hs (by omega)
    rw [show intoT bs fs (k : Int) ⟨⟨y, ms, false, spn⟩, l, r, false⟩ = RI by unfold intoT; rw [hbk, if_pos (by rw [hak]; rfl)]; exact hRI, hpv, hiv] at q
    exact q)
  have HCp := Lib.hid (fun (hak : (b.k == 1 || b.k == 4) = true) F tp p w' (ht : T w' tp bs) (hs' : S w' F p fs) => by
    have q := hA.past w' tp F p bs fs (k : Int) ⟨⟨y, ms, false, spn⟩, l, r, false⟩ 20 ht hs' hW hnear hs (by omega)
    rw [show pastT bs fs (k : Int) ⟨⟨y, ms, false, spn⟩, l, r, false⟩ = RP by unfold pastT; rw [hbk, if_pos (by rw [hak]; rfl)]; exact hRP, hpv, hpv'] at q
    exact q)
  have HBe := Lib.hid hB
  have z0 : Lies (w.alloc (.cells #[.int .i64 y, .slice A n c, .bool spn, .bool l, .bool r] 34)) w.heap.size [.int .i64 y, .slice A n c, .bool spn, .bool l, .bool r] := Lies.new w _ _
  have Z0 := Lib.hid z0
  have hnz : ¬ (nL : Int) = 0 := by omega
  have hka : (k : Int) < (nL : Int) := by omega
  have hk0 : ¬ (k : Int) < 0 := by omega
  have hwk : IntKind.i64.wrap (k : Int) = (k : Int) := IntWalk.i64_in _ (by omega)
  have hw8 : IntKind.i64.wrap at8 = at8 := IntWalk.i64_in _ (by omega)
  clear z0 hB hW hnear hl0 hl60 hs hh hL hnL hP hQ hD hpv hsp hbk hb hkb hkn hRI hRP his hid hie hiv hps hpd hpe hpv' hw0 hv0 ha8
  go_enter Try.func4, Try.ntmps4
  go_upto_region 4 with (first
    | (go_at_call 9; refine (HBe.out _ (ba1 w _)).mono ?_; rintro e w1 ⟨⟨tp, p, F, rfl, ht, hs1, hFF⟩, k1⟩; have K1 := Lib.hid (⟨thru (ba1 w _) k1, ht, hs1, Z0.out.below (by simp) k1⟩ : Below w.heap.size w w1 ∧ T w1 tp bs ∧ S w1 F p fs ∧ Lies w1 w.heap.size [.int .i64 y, .slice A n c, .bool spn, .bool l, .bool r]); clear k1 ht hs1 hFF)
    | (go_at_call 6; refine (hspeaks hT hS hA w1).mono ?_; rintro e w2 ⟨rfl, k2⟩; have K2 := Lib.hid (⟨thru K1.out.1 k2, hT.keep _ _ _ _ K1.out.2.1 k2, keepS hS K1.out.2.2.1 k2, K1.out.2.2.2.below (by simp) k2⟩ : Below w.heap.size w w2 ∧ T w2 tp bs ∧ S w2 F p fs ∧ Lies w2 w.heap.size [.int .i64 y, .slice A n c, .bool spn, .bool l, .bool r]); clear k2 K1))
  have HTS := Lib.hid (fun w' (j : Below w2.heap.size w2 w') => (⟨hT.keep _ _ _ _ K2.out.2.1 j, keepS hS K2.out.2.2.1 j, thru K2.out.1 j⟩ : T w' tp bs ∧ S w' F p fs ∧ Below w.heap.size w w'))
  obtain ⟨d0, d1, d2, d3, d4, d5, d6, d7, d8, d9, d10, d11, d12, d13⟩ := HAt.out w2 K2.out.1
  go_upto_region 6 with fail
  clear d0 d1 d2 d3 d4 d5 d6 d7 d8 d9 d10 d11 d12 d13
  generalize hW9 : World.alloc w2 _ = W9
  obtain ⟨b12, hb12⟩ : ∃ b, w2.heap.size = b := ⟨_, rfl⟩
  have z12 : At W9 b12 b := by rw [← hW9, ← hb12]; exact At.of_block (heap_alloc_new w2 _)
  have k9 : Below w2.heap.size w2 W9 := by rw [← hW9]; exact ba1 _ _
  try rw [hb12]
  have K9 := Lib.hid (⟨k9, z12, K2.out.2.2.2.below (by simp) k9⟩ : Below w2.heap.size w2 W9 ∧ At W9 b12 b ∧ Lies W9 w.heap.size [.int .i64 y, .slice A n c, .bool spn, .bool l, .bool r])
  clear hW9 hb12 z12 k9
  obtain ⟨-, x1, -⟩ := K9.out.2.1
  by_cases hak : (b.k == 1 || b.k == 4) = true
  · go_upto_region 6 with fail
    go_cut [51] (fun tt wx => tt = .bool false ∧ wx = W9)
    case first =>
      by_cases h1 : b.k = 1
      · have hb1 : (b.k != 1) = false := by simp; omega
        clear h1 hak
        go_wp2_with fail
        go_meet
        exact ⟨rfl, rfl⟩
      · have hb1 : (b.k != 1) = true := by simp; omega
        have hb4 : (b.k != 4) = false := by simp at hak ⊢; omega
        clear h1 hak
        go_wp2_with fail
        go_meet
        exact ⟨rfl, rfl⟩
    case rest =>
    obtain ⟨rfl, rfl⟩ := hcut
    have HAk := Lib.hid hak
    clear x1 hak
    have c0 : wc.cell? ⟨w.heap.size, 0, none⟩ = some (.int .i64 y) := K9.out.2.2.at' 0
    have c1 : wc.cell? ⟨w.heap.size, 1, none⟩ = some (.slice A n c) := K9.out.2.2.at' 1
    have c2 : wc.cell? ⟨w.heap.size, 2, none⟩ = some (.bool spn) := K9.out.2.2.at' 2
    have c3 : wc.cell? ⟨w.heap.size, 3, none⟩ = some (.bool l) := K9.out.2.2.at' 3
    have c4 : wc.cell? ⟨w.heap.size, 4, none⟩ = some (.bool r) := K9.out.2.2.at' 4
    go_upto_region 9 with (first
      | (go_at_call 11; refine (hlook_any y ms spn l r A n c wc).mono ?_; rintro e w3 ⟨rfl, k3⟩; have K3 := Lib.hid k3; clear k3 c0 c1 c2 c3 c4)
      | (go_at_call 10; refine (HTo.out w3 (HTS.out w3 (thru K9.out.1 K3.out)).2.2).mono ?_; rintro e w4 ⟨rfl, k4⟩; have K4 := Lib.hid (thru K3.out k4); clear k4 K3))
    generalize hW5 : World.alloc w4 _ = W5
    obtain ⟨b13, hb13⟩ : ∃ b, w4.heap.size = b := ⟨_, rfl⟩
    have z13 : Lies W5 b13 (lprow ⟨y, P, Q, false, spn⟩ D false) := by rw [← hW5, ← hb13]; exact Lies.new w4 _ _
    have k5 : Below w4.heap.size w4 W5 := by rw [← hW5]; exact ba1 _ _
    try rw [hb13]
    have K5 := Lib.hid (⟨thru K9.out.1 (thru K4.out k5), K9.out.2.1.below K9.out.2.1.lt (thru K4.out k5), z13⟩ : Below w2.heap.size w2 W5 ∧ At W5 b12 b ∧ Lies W5 b13 (lprow ⟨y, P, Q, false, spn⟩ D false))
    clear hW5 hb13 z13 k5 K4 K9
    have HZ := Lib.hid (fun st w' G (hw : Draw.quiet W5 st w' G) => (⟨K5.out.2.2.below (by simp) hw.1, HTS.out w' (thru K5.out.1 hw.1)⟩ : Lies w' b13 (lprow ⟨y, P, Q, false, spn⟩ D false) ∧ T w' tp bs ∧ S w' F p fs ∧ Below w.heap.size w w'))
    refine Draw.wp_region_drawn (Draw.quiet W5) 0 [.val (.pointer (some tp)), .val (.pointer (some p)), .val (.int .i64 (k : Int)), .val (.agg #[.int .i64 y, .int .i64 P, .int .i64 Q, .bool false, .bool spn, .int .i64 D, .bool false]), .val (.agg #[.int .i64 iy, .int .i64 ip, .int .i64 iq, .bool ih, .bool isp, .int .i64 iD, .bool ie]), .val (.pointer (some tp)), .val (.pointer (some p)), .val (.int .i64 (k : Int)), .val (.agg #[.int .i64 y, .int .i64 P, .int .i64 Q, .bool false, .bool spn, .int .i64 D, .bool false]), .val (.agg #[.int .i64 py, .int .i64 pp, .int .i64 pq, .bool ph, .bool psp, .int .i64 pD, .bool pe]), .box (.cells #[.int .i64 0, .int .i64 0, .int .i64 0, .bool false, .bool false, .int .i64 0, .bool false] 47), .box (.cells #[.int .i64 0, .int .i64 0, .int .i64 0, .bool false, .bool false, .int .i64 0, .bool false] 47), .put 10 (.cells #[.int .i64 iy, .int .i64 ip, .int .i64 iq, .bool ih, .bool isp, .int .i64 iD, .bool ie] 47), .put 11 (.cells #[.int .i64 py, .int .i64 pp, .int .i64 pq, .bool ph, .bool psp, .int .i64 pD, .bool pe] 47)] (by kernel_rfl) (by kernel_rfl) (by kernel_rfl) (Draw.quiet_kept W5) (Draw.quiet_start W5) ?_ ?_
    · simp only [Draw.fill, Draw.Leave.value]
      refine ⟨?_, ?_, ?_, ?_, ?_, ?_, ?_, ?_, ?_, ?_, ?_, ?_, ?_, ?_, trivial⟩
      · intro st gg w' G hw hk
        go_simp
        exact ⟨rfl, rfl⟩
      · intro st gg w' G hw hk
        go_simp
        exact ⟨rfl, rfl⟩
      · intro st gg w' G hw hk
        go_simp
        exact ⟨rfl, rfl⟩
      · intro st gg w' G hw hk
        have q0 : w'.cell? ⟨b13, 0, none⟩ = some (.int .i64 y) := ((HZ.out st w' G hw).1).at' 0
        have q1 : w'.cell? ⟨b13, 1, none⟩ = some (.int .i64 P) := ((HZ.out st w' G hw).1).at' 1
        have q2 : w'.cell? ⟨b13, 2, none⟩ = some (.int .i64 Q) := ((HZ.out st w' G hw).1).at' 2
        have q3 : w'.cell? ⟨b13, 3, none⟩ = some (.bool false) := ((HZ.out st w' G hw).1).at' 3
        have q4 : w'.cell? ⟨b13, 4, none⟩ = some (.bool spn) := ((HZ.out st w' G hw).1).at' 4
        have q5 : w'.cell? ⟨b13, 5, none⟩ = some (.int .i64 D) := ((HZ.out st w' G hw).1).at' 5
        have q6 : w'.cell? ⟨b13, 6, none⟩ = some (.bool false) := ((HZ.out st w' G hw).1).at' 6
        go_simp
        exact ⟨rfl, rfl⟩
      · intro st gg w' G hw hk
        go_simp
        exact Draw.stays_call (HCi.out HAk.out F tp p w' (HZ.out st w' G hw).2.1 (HZ.out st w' G hw).2.2.1)
      · intro st gg w' G hw hk
        go_simp
        exact ⟨rfl, rfl⟩
      · intro st gg w' G hw hk
        go_simp
        exact ⟨rfl, rfl⟩
      · intro st gg w' G hw hk
        go_simp
        exact ⟨rfl, rfl⟩
      · intro st gg w' G hw hk
        have q0 : w'.cell? ⟨b13, 0, none⟩ = some (.int .i64 y) := ((HZ.out st w' G hw).1).at' 0
        have q1 : w'.cell? ⟨b13, 1, none⟩ = some (.int .i64 P) := ((HZ.out st w' G hw).1).at' 1
        have q2 : w'.cell? ⟨b13, 2, none⟩ = some (.int .i64 Q) := ((HZ.out st w' G hw).1).at' 2
        have q3 : w'.cell? ⟨b13, 3, none⟩ = some (.bool false) := ((HZ.out st w' G hw).1).at' 3
        have q4 : w'.cell? ⟨b13, 4, none⟩ = some (.bool spn) := ((HZ.out st w' G hw).1).at' 4
        have q5 : w'.cell? ⟨b13, 5, none⟩ = some (.int .i64 D) := ((HZ.out st w' G hw).1).at' 5
        have q6 : w'.cell? ⟨b13, 6, none⟩ = some (.bool false) := ((HZ.out st w' G hw).1).at' 6
        go_simp
        exact ⟨rfl, rfl⟩
      · intro st gg w' G hw hk
        go_simp
        exact Draw.stays_call (HCp.out HAk.out F tp p w' (HZ.out st w' G hw).2.1 (HZ.out st w' G hw).2.2.1)
      · intro st gg w' G hw hk
        go_simp
      · intro st gg w' G hw hk
        go_simp
      · intro st gg w' G hw y b hy hob hb
        obtain rfl : Draw.Leave.box _ = y := Option.some.inj hy
        obtain rfl : _ = b := Option.some.inj hob
        have hb0 := lies_of (xs := zeroLp) hb
        obtain ⟨r0, r1, r2, r3, r4, r5, r6⟩ := lpat_of (x := zeroSp) (d := 0) (e := false) hb0
        obtain ⟨f0, f1, f2, f3, f4, f5, f6⟩ := lkfr_of hb0
        refine ⟨_, ?_, only_putP zeroSp ⟨iy, ip, iq, ih, isp⟩ 0 iD false ie hb⟩
        clear hb0
        clear hb
        go_simp
        rfl
      · intro st gg w' G hw y b hy hob hb
        obtain rfl : Draw.Leave.box _ = y := Option.some.inj hy
        obtain rfl : _ = b := Option.some.inj hob
        have hb0 := lies_of (xs := zeroLp) hb
        obtain ⟨r0, r1, r2, r3, r4, r5, r6⟩ := lpat_of (x := zeroSp) (d := 0) (e := false) hb0
        obtain ⟨f0, f1, f2, f3, f4, f5, f6⟩ := lkfr_of hb0
        refine ⟨_, ?_, only_putP zeroSp ⟨py, pp, pq, ph, psp⟩ 0 pD false pe hb⟩
        clear hb0
        clear hb
        go_simp
        rfl
    intro gg w5 G5 k5 hbox hput hap
    have l14 := (hbox 10 _ _ rfl rfl).2.1
    have n45 := hap 10 11 _ _ _ _ (by decide) rfl rfl rfl rfl
    have p14 := lies_of (xs := (lprow ⟨iy, ip, iq, ih, isp⟩ iD ie)) (hput 12 10 _ rfl)
    have p15 := lies_of (xs := (lprow ⟨py, pp, pq, ph, psp⟩ pD pe)) (hput 13 11 _ rfl)
    simp only [Draw.fill, Draw.Leave.value]
    go_simp
    generalize gg 10 = b14 at *
    generalize gg 11 = b15 at *
    have E5 := Lib.hid (⟨thru K5.out.1 k5.1, K5.out.2.1.below K5.out.2.1.lt k5.1, K5.out.2.2.below (by simp) k5.1, p14, p15⟩ : Below w2.heap.size w2 w5 ∧ At w5 b12 b ∧ Lies w5 b13 (lprow ⟨y, P, Q, false, spn⟩ D false) ∧ Lies w5 b14 (lprow ⟨iy, ip, iq, ih, isp⟩ iD ie) ∧ Lies w5 b15 (lprow ⟨py, pp, pq, ph, psp⟩ pD pe))
    have HQ := Lib.hid (⟨Nat.le_trans K5.out.1.size l14, n45⟩ : w2.heap.size ≤ b14 ∧ b14 ≠ b15)
    clear p14 p15 l14 n45 k5 hbox hput hap HZ K5 HCi HCp HTo HBe Z0
    obtain ⟨-, -, -, -, -, -, -, -, -, -, x10, -⟩ := E5.out.2.1
    cases ie
    · by_cases he : 0 < b.e0
      · have := (HE.out he).2.2.2.2.2.2
        cases this
      · skip
        have he' : ¬ b.e0 > 0 := he
        have EE := Lib.hid (⟨E5.out.1, E5.out.2.1, E5.out.2.2.2.1, E5.out.2.2.2.2⟩ : Below w2.heap.size w2 w5 ∧ At w5 b12 b ∧ Lies w5 b14 (lprow ⟨iy, ip, iq, ih, isp⟩ iD false) ∧ Lies w5 b15 (lprow ⟨py, pp, pq, ph, psp⟩ pD pe))
        go_upto_region 16 with fail
        clear x10 he he'
        obtain ⟨-, -, -, x3, -, x5, -⟩ := EE.out.2.1
        have g6 := (lpat_of EE.out.2.2.1).2.2.2.2.2.2
        go_upto_region 16 with fail
        go_cut [88] (fun tt wx => tt = .bool false ∧ wx = w5)
        case first =>
          by_cases hh : 0 ≤ b.h
          · have := HH.out hh
            cases this
          · have hh' : ¬ b.h ≥ 0 := hh
            go_wp2_with fail
            go_meet
            exact ⟨rfl, rfl⟩
        case rest =>
        obtain ⟨rfl, rfl⟩ := hcut
        by_cases hc : b.c = 0
        · have hq := HC2.out hc (by simp)
          have hbc : (b.c != 0) = false := by rw [hc]; rfl
          obtain ⟨rfl, rfl, rfl, rfl, rfl, rfl, rfl⟩ := hq
          clear g6 hc
          obtain ⟨c0, c1, c2, c3, c4, c5, c6⟩ := lpat_of EE.out.2.2.1
          obtain ⟨-, -, -, -, -, -, -, -, x8, -⟩ := EE.out.2.1
          go_upto_region 22 with (first
            | (go_at_call 14; refine (HV0.out _).mono ?_; rintro e w8 ⟨rfl, k8⟩; clear c0 c1 c2 c3 c4 c5 c6 x3 x5 x8; have z0 := EE.out.2.2.1.below (by simp) k8; obtain ⟨f0, f1, f2, f3, f4, f5, f6⟩ := lkfr_of z0; obtain ⟨c0, c1, c2, c3, c4, c5, c6⟩ := lpat_of z0; have K8 := Lib.hid (⟨thru EE.out.1 k8, z0, EE.out.2.2.2.below (by simp) k8⟩ : Below w2.heap.size w2 w8 ∧ Lies w8 b14 (lprow ⟨iy, ip, iq, ih, isp⟩ iD false) ∧ Lies w8 b15 (lprow ⟨vy, vp, vq, vh, vs⟩ iD false)); clear k8 z0))
          generalize hV : World.setCell (World.setCell (World.setCell (World.setCell (World.setCell w8 _ _) _ _) _ _) _ _) _ _ = V
          have zV : Below w2.heap.size w2 V ∧ Lies V b14 (lprow ⟨vy, vp, vq, vh, vs⟩ iD false) ∧ Lies V b15 (lprow ⟨vy, vp, vq, vh, vs⟩ iD false) := by
            rw [← hV]
            have sv := Save.five w8 b14 (.int .i64 vy) (.int .i64 vp) (.int .i64 vq) (.bool vh) (.bool vs)
            exact ⟨K8.out.1.trans (sv.blw HQ.out.1 K8.out.1.size), (((((K8.out.2.1).set 0 (.int .i64 vy) (by simp)).set 1 (.int .i64 vp) (by simp)).set 2 (.int .i64 vq) (by simp)).set 3 (.bool vh) (by simp)).set 4 (.bool vs) (by simp), K8.out.2.2.save (by simp) sv (fun e => HQ.out.2 e.symm)⟩
          have HV := Lib.hid zV
          clear zV hV K8 c0 c1 c2 c3 c4 c5 c6 f0 f1 f2 f3 f4 f5 f6
          obtain ⟨c0, c1, c2, c3, c4, c5, c6⟩ := lpat_of HV.out.2.1
          obtain ⟨g0, g1, g2, g3, g4, g5, g6⟩ := lpat_of HV.out.2.2
          go_wp2_with fail
          go_ret
          exact ⟨rfl, (HTS.out _ HV.out.1).2.2⟩
        · have hbc : (b.c != 0) = true := by simpa using hc
          clear hc
          go_wp2_with fail
          go_ret
          exact ⟨rfl, (HTS.out _ EE.out.1).2.2⟩
    · by_cases he : 0 < b.e0
      · have hq := HE.out he
        obtain ⟨rfl, rfl, rfl, rfl, rfl, rfl, -⟩ := hq
        have he' : b.e0 > 0 := he
        obtain ⟨-, -, -, -, -, -, x6, -⟩ := E5.out.2.1
        obtain ⟨c0, c1, c2, c3, c4, c5, c6⟩ := lpat_of E5.out.2.2.1
        go_upto_region 12 with fail
        clear c0 c1 c2 c3 c4 c5 c6 x6 x10 he he'
        generalize hW6 : World.alloc w5 _ = W6
        obtain ⟨b16, hb16⟩ : ∃ b, w5.heap.size = b := ⟨_, rfl⟩
        have z16 : Lies W6 b16 (lprow ⟨y, P, Q, false, spn⟩ iD false) := by rw [← hW6, ← hb16]; exact Lies.new w5 _ _
        have k6 : Below w5.heap.size w5 W6 := by rw [← hW6]; exact ba1 _ _
        have hb5 : w5.heap.size ≤ b16 := Nat.le_of_eq hb16
        try rw [hb16]
        have K6 := Lib.hid (⟨k6, z16, E5.out.2.1.below E5.out.2.1.lt k6, hb5⟩ : Below w5.heap.size w5 W6 ∧ Lies W6 b16 (lprow ⟨y, P, Q, false, spn⟩ iD false) ∧ At W6 b12 b ∧ w5.heap.size ≤ b16)
        clear hW6 hb16 z16 k6 hb5
        obtain ⟨c0, c1, c2, c3, c4, c5, c6⟩ := lpat_of K6.out.2.1
        obtain ⟨-, -, -, -, -, -, x6, -⟩ := K6.out.2.2.1
        go_upto_region 13 with (first
          | (go_at_call 14; refine (HW0.out W6).mono ?_; rintro e w7 ⟨rfl, k7⟩; clear c0 c1 c2 c3 c4 c5 c6 x6; have z0 := K6.out.2.1.below (by simp) k7; obtain ⟨f0, f1, f2, f3, f4, f5, f6⟩ := lkfr_of z0; obtain ⟨c0, c1, c2, c3, c4, c5, c6⟩ := lpat_of z0; have K7 := Lib.hid (⟨thru K6.out.1 k7, z0, K6.out.2.2.2⟩ : Below w5.heap.size w5 w7 ∧ Lies w7 b16 (lprow ⟨y, P, Q, false, spn⟩ iD false) ∧ w5.heap.size ≤ b16); clear k7 z0 K6))
        generalize hV : World.setCell (World.setCell (World.setCell (World.setCell (World.setCell w7 _ _) _ _) _ _) _ _) _ _ = V
        have zV : Below w5.heap.size w5 V ∧ Lies V b16 (lprow ⟨iy, ip, iq, ih, isp⟩ iD false) := by
          rw [← hV]
          have sv := Save.five w7 b16 (.int .i64 iy) (.int .i64 ip) (.int .i64 iq) (.bool ih) (.bool isp)
          exact ⟨K7.out.1.trans (sv.blw K7.out.2.2 K7.out.1.size), (((((K7.out.2.1).set 0 (.int .i64 iy) (by simp)).set 1 (.int .i64 ip) (by simp)).set 2 (.int .i64 iq) (by simp)).set 3 (.bool ih) (by simp)).set 4 (.bool isp) (by simp)⟩
        have HV := Lib.hid (⟨zV.1, zV.2, K7.out.2.2⟩ : Below w5.heap.size w5 V ∧ Lies V b16 (lprow ⟨iy, ip, iq, ih, isp⟩ iD false) ∧ w5.heap.size ≤ b16)
        clear zV hV K7 c0 c1 c2 c3 c4 c5 c6 f0 f1 f2 f3 f4 f5 f6
        obtain ⟨f0, f1, f2, f3, f4, f5, f6⟩ := lkfr_of HV.out.2.1
        obtain ⟨c0, c1, c2, c3, c4, c5, c6⟩ := lpat_of HV.out.2.1
        go_upto_region 14 with fail
        generalize hV : World.setCell V _ _ = U
        have zU : Below w5.heap.size w5 U ∧ Lies U b16 (lprow ⟨iy, ip, iq, ih, isp⟩ iD true) := by
          rw [← hV]
          have sv := Save.set (w := V) b16 6 (.bool true)
          exact ⟨HV.out.1.trans (sv.blw HV.out.2.2 HV.out.1.size), HV.out.2.1.set 6 (.bool true) (by simp)⟩
        have HU := Lib.hid zU
        clear zU hV HV c0 c1 c2 c3 c4 c5 c6 f0 f1 f2 f3 f4 f5 f6
        have EE := Lib.hid (⟨thru E5.out.1 HU.out.1, E5.out.2.1.below E5.out.2.1.lt HU.out.1, E5.out.2.2.2.1.below (by simp) HU.out.1, E5.out.2.2.2.2.below (by simp) HU.out.1⟩ : Below w2.heap.size w2 U ∧ At U b12 b ∧ Lies U b14 (lprow ⟨iy, ip, iq, ih, isp⟩ iD true) ∧ Lies U b15 (lprow ⟨py, pp, pq, ph, psp⟩ pD pe))
        obtain ⟨c0, c1, c2, c3, c4, c5, c6⟩ := lpat_of HU.out.2
        obtain ⟨g0, g1, g2, g3, g4, g5, g6⟩ := lpat_of EE.out.2.2.1
        go_upto_region 16 with fail
        clear c0 c1 c2 c3 c4 c5 c6 g0 g1 g2 g3 g4 g5 g6
        obtain ⟨-, -, -, x3, -, x5, -⟩ := EE.out.2.1
        have g6 := (lpat_of EE.out.2.2.1).2.2.2.2.2.2
        go_upto_region 16 with fail
        go_cut [88] (fun tt wx => tt = .bool false ∧ wx = U)
        case first =>
          by_cases hh : 0 ≤ b.h
          · go_wp2_with fail
            go_meet
            exact ⟨rfl, rfl⟩
          · have hh' : ¬ b.h ≥ 0 := hh
            go_wp2_with fail
            go_meet
            exact ⟨rfl, rfl⟩
        case rest =>
        obtain ⟨rfl, rfl⟩ := hcut
        by_cases hc : b.c = 0
        · have hq := HC1.out hc (by simp)
          have hbc : (b.c != 0) = false := by rw [hc]; rfl
          obtain ⟨rfl, rfl, rfl, rfl, rfl, rfl, rfl⟩ := hq
          clear g6
          obtain ⟨c0, c1, c2, c3, c4, c5, c6⟩ := lpat_of EE.out.2.2.1
          obtain ⟨g0, g1, g2, g3, g4, g5, g6⟩ := lpat_of EE.out.2.2.2
          clear hc
          go_wp2_with fail
          go_ret
          exact ⟨rfl, (HTS.out _ EE.out.1).2.2⟩
        · have hbc : (b.c != 0) = true := by simpa using hc
          clear hc
          go_wp2_with fail
          go_ret
          exact ⟨rfl, (HTS.out _ EE.out.1).2.2⟩
      · skip
        have he' : ¬ b.e0 > 0 := he
        have EE := Lib.hid (⟨E5.out.1, E5.out.2.1, E5.out.2.2.2.1, E5.out.2.2.2.2⟩ : Below w2.heap.size w2 w5 ∧ At w5 b12 b ∧ Lies w5 b14 (lprow ⟨iy, ip, iq, ih, isp⟩ iD true) ∧ Lies w5 b15 (lprow ⟨py, pp, pq, ph, psp⟩ pD pe))
        go_upto_region 16 with fail
        clear x10 he he'
        obtain ⟨-, -, -, x3, -, x5, -⟩ := EE.out.2.1
        have g6 := (lpat_of EE.out.2.2.1).2.2.2.2.2.2
        go_upto_region 16 with fail
        go_cut [88] (fun tt wx => tt = .bool false ∧ wx = w5)
        case first =>
          by_cases hh : 0 ≤ b.h
          · go_wp2_with fail
            go_meet
            exact ⟨rfl, rfl⟩
          · have hh' : ¬ b.h ≥ 0 := hh
            go_wp2_with fail
            go_meet
            exact ⟨rfl, rfl⟩
        case rest =>
        obtain ⟨rfl, rfl⟩ := hcut
        by_cases hc : b.c = 0
        · have hq := HC1.out hc (by simp)
          have hbc : (b.c != 0) = false := by rw [hc]; rfl
          obtain ⟨rfl, rfl, rfl, rfl, rfl, rfl, rfl⟩ := hq
          clear g6
          obtain ⟨c0, c1, c2, c3, c4, c5, c6⟩ := lpat_of EE.out.2.2.1
          obtain ⟨g0, g1, g2, g3, g4, g5, g6⟩ := lpat_of EE.out.2.2.2
          clear hc
          go_wp2_with fail
          go_ret
          exact ⟨rfl, (HTS.out _ EE.out.1).2.2⟩
        · have hbc : (b.c != 0) = true := by simpa using hc
          clear hc
          go_wp2_with fail
          go_ret
          exact ⟨rfl, (HTS.out _ EE.out.1).2.2⟩
  · have hn1 : (b.k != 1) = true := by simp at hak ⊢; omega
    have hn4 : (b.k != 4) = true := by simp at hak ⊢; omega
    clear hak
    go_wp2_with fail
    go_ret
    exact ⟨rfl, (HTS.out _ K9.out.1).2.2⟩

end

end Go.Proofs.Ytfomhdhiibcdfaa.Ahead
