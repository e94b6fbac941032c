/- The law: what looks into and past any box come to is as the document says. -/
import Derived.Test.YtfomhdhiibcdfaaGreatPart31
namespace Go.Proofs.YtfomhdhiibcdfaaGreat.Ahead
open Go.RowKit Go.Sort Go.Proofs.YtfomhdhiibcdfaaGreat.More Go.Proofs.YtfomhdhiibcdfaaGreat.Record Go.Proofs.YtfomhdhiibcdfaaGreat.Script Go.Proofs.YtfomhdhiibcdfaaGreat.Tree Go.Proofs.YtfomhdhiibcdfaaGreat.Shelf Go.Proofs.YtfomhdhiibcdfaaGreat.Space Go.Proofs.YtfomhdhiibcdfaaGreat.Spot
set_option linter.unusedVariables false
set_option linter.unusedSimpArgs false

section
variable {T : World → Addr → List Bx → Prop} {S : World → (Nat → Prop) → Addr → List Fl → Prop}

/-- A document's look that a function answers. -/
def RlR (x : Rl) (w : World) (v : Value) : Prop := ∃ A n c, v = rlv x A n c ∧ Held w A n c x.x.ms
theorem rlr_keeps (x : Rl) : Hold.Keeps (RlR x) := fun w w' u k ⟨A, n, c, e, h⟩ => ⟨A, n, c, e, h.below k⟩
theorem rlr_of_I {f : FuncId} {args : Array Value} {w : World} {x : Rl} (h : Calls Tryz.prog f args w (GivesI w x)) : Calls Tryz.prog f args w fun e w' => ∃ u, e = .returned u ∧ RlR x w' u ∧ Below w.heap.size w w' :=
  h.mono fun e w' ⟨⟨A, n, c, he, hm⟩, hb⟩ => ⟨_, he, ⟨A, n, c, rfl, Mine.held hm⟩, hb⟩
theorem rlr_of_P {f : FuncId} {args : Array Value} {w : World} {A : Option Addr} {n c : Nat} {ms : List Int} {x : Rl} (h : Calls Tryz.prog f args w (GivesP w A n c ms x)) (hh : Held w A n c ms) : Calls Tryz.prog f args w fun e w' => ∃ u, e = .returned u ∧ RlR x w' u ∧ Below w.heap.size w w' :=
  h.mono fun e w' ⟨⟨A', n', c', he, hm⟩, hb⟩ => ⟨_, he, ⟨A', n', c', rfl, by
    rcases hm with ⟨rfl, rfl, rfl, hms⟩ | hm
    · rw [hms]; exact hh.below hb
    · exact Mine.held hm⟩, hb⟩

theorem keepS (hS : SpaceOk S) {w w' : World} {F : Nat → Prop} {p : Addr} {fs : List Fl} (h : S w F p fs) (k : Below w.heap.size w w') : S w' F p fs :=
  hS.keep _ _ _ _ _ _ h (But.of_below (S := fun _ => False) k) (fun _ _ h => h)

set_option maxRecDepth 100000 in
set_option maxHeartbeats 800000 in
theorem looks_no (hT : TreeOk T) (hS : SpaceOk S) (hA : AheadOk T S) (AL : Option Addr) (nL cL : Nat) (bs : List Bx) (AF : Option Addr) (nF cF : Nat) (fs : List Fl) (y : Int) (A : Option Addr) (n c : Nat) (ms : List Int) (spn l r : Bool) (ot : Int) (w : World)
    (hB : ∀ w', Below w.heap.size w w' → Calls Tryz.prog 4 #[.slice AL nL cL, .slice AF nF cF, fromV y A n c spn l r] w' fun r w'' => r = .returned (.tuple #[.pointer none, .pointer none]) ∧ Below w'.heap.size w' w'') :
    Calls Tryz.prog 3 #[.slice AL nL cL, .slice AF nF cF, fromV y A n c spn l r, .int .i64 ot] w fun e w' => e = .returned (.bool true) ∧ Below w.heap.size w w' := by
  have HBe := Lib.hid hB
  clear hB
  go_enter Tryz.func3, Tryz.ntmps3
  go_wp2_with (first
    | (go_at_call 4; refine (HBe.out _ (ba1 w _)).mono ?_; rintro e w1 ⟨rfl, k1⟩; have K1 := Lib.hid (thru (ba1 w _) k1); clear k1)
    | (go_at_call 5; with_reducible refine (hspeaks hT hS hA w1).mono ?_; rintro e w2 ⟨rfl, k2⟩; have K2 := Lib.hid (thru K1.out k2); clear k2)
    | (go_at_call 5; with_reducible refine (hspeaks hT hS hA w2).mono ?_; rintro e w3 ⟨rfl, k3⟩; have K3 := Lib.hid (thru K2.out k3); clear k3))
  go_ret
  exact ⟨rfl, K3.out⟩

set_option maxRecDepth 100000 in
set_option maxHeartbeats 8000000 in
theorem looks_yes (hT : TreeOk T) (hS : SpaceOk S) (hA : AheadOk T S) (ad0 : Addr) (nL cL : Nat) (bs : List Bx) (AF : Option Addr) (nF cF : Nat) (fs : List Fl) (y : Int) (A : Option Addr) (n c : Nat) (ms : List Int) (spn l r : Bool) (ot : Int) (w : World)
    (hB : ∀ w', Below w.heap.size w w' → Calls Tryz.prog 4 #[.slice (some ad0) nL cL, .slice AF nF cF, fromV y A n c spn l r] w' fun r w'' => (∃ tp p F, r = .returned (.tuple #[.pointer (some tp), .pointer (some p)]) ∧ T w'' tp bs ∧ S w'' F p fs ∧ ∀ k, F k → w'.heap.size ≤ k) ∧ Below w'.heap.size w' w'')
    (hW : Wood bs) (hnear : fs.all nearF = true) (hl60 : bs.length ≤ 60) (hs : Slim 20 (⟨⟨y, ms, false, spn⟩, l, r, false⟩ : Rl)) (hh : Held w A n c ms) (hL : Boxes w w.heap.size (some ad0) bs) (hF : Floats w w.heap.size AF fs) (hnL : nL = bs.length) (hnF : nF = fs.length) (hf12 : fs.length ≤ 12) :
    Calls Tryz.prog 3 #[.slice (some ad0) nL cL, .slice AF nF cF, fromV y A n c spn l r, .int .i64 ot] w fun e w' => e = .returned (.bool true) ∧ Below w.heap.size w w' := by
  obtain ⟨P, hP⟩ : ∃ P, Strut.mostOf ms = P := ⟨_, rfl⟩
  obtain ⟨Q, hQ⟩ : ∃ Q, Strut.leastOf ms = Q := ⟨_, rfl⟩
  obtain ⟨D, hD⟩ : ∃ D, sidesI l r = D := ⟨_, rfl⟩
  have hpv : ∀ e, Rl.pv ⟨⟨y, ms, false, spn⟩, l, r, e⟩ = lpv ⟨y, P, Q, false, spn⟩ D e := fun e => by unfold Rl.pv Rp.sp; rw [hP, hQ, hD]
  have HTo := Lib.hid (fun w' (j : Below w.heap.size w w') => by
    have q := hto_any ⟨⟨y, ms, false, spn⟩, l, r, false⟩ A n c w' (hh.below j) (hs.fine (by omega))
    rw [hpv] at q
    exact q)
  have HRi := Lib.hid (fun (i : Nat) (hi : i < bs.length) w' (j : Below w.heap.size w w') => hrinto_any bs fs bs.length hW (refpast_all bs fs hW (by omega) _) i ⟨⟨y, ms, false, spn⟩, l, r, false⟩ A n c ad0 cL AF cF 20 w' hi (by omega) rfl hs (by omega) (hh.below j) (hL.thru j) (hF.thru j))
  have HRp := Lib.hid (fun (i : Nat) (hi : i < bs.length) w' (j : Below w.heap.size w w') => refpast_all bs fs hW (by omega) bs.length i ⟨⟨y, ms, false, spn⟩, l, r, false⟩ A n c (some ad0) cL AF cF 20 w' hi (by omega) rfl hs (by omega) (hh.below j) (hL.thru j) (hF.thru j))
  have HIn := Lib.hid (fun (i : Int) tp F p w' (ht : T w' tp bs) (hs' : S w' F p fs) => by
    have q := hA.into w' tp F p bs fs i ⟨⟨y, ms, false, spn⟩, l, r, false⟩ 20 ht hs' hW hnear hs (by omega)
    rw [hpv] at q
    exact q)
  have HPa := Lib.hid (fun (i : Int) tp F p w' (ht : T w' tp bs) (hs' : S w' F p fs) => by
    have q := hA.past w' tp F p bs fs i ⟨⟨y, ms, false, spn⟩, l, r, false⟩ 20 ht hs' hW hnear hs (by omega)
    rw [hpv] at q
    exact q)
  have hse : Slim 20 (⟨⟨y, ms, false, spn⟩, l, r, true⟩ : Rl) := hs
  have hie : ∀ i, intoT bs fs i ⟨⟨y, ms, false, spn⟩, l, r, true⟩ = ⟨⟨y, ms, false, spn⟩, l, r, true⟩ := fun i => by unfold intoT; rw [if_neg (by simp)]
  have hpe : ∀ i, pastT bs fs i ⟨⟨y, ms, false, spn⟩, l, r, true⟩ = ⟨⟨y, ms, false, spn⟩, l, r, true⟩ := fun i => by unfold pastT; rw [if_neg (by simp)]
  have HIe := Lib.hid (fun (i : Int) tp F p w' (ht : T w' tp bs) (hs' : S w' F p fs) => by
    have q := hA.into w' tp F p bs fs i ⟨⟨y, ms, false, spn⟩, l, r, true⟩ 20 ht hs' hW hnear hse (by omega)
    rw [hie, hpv] at q
    exact q)
  have HPe := Lib.hid (fun (i : Int) tp F p w' (ht : T w' tp bs) (hs' : S w' F p fs) => by
    have q := hA.past w' tp F p bs fs i ⟨⟨y, ms, false, spn⟩, l, r, true⟩ 20 ht hs' hW hnear hse (by omega)
    rw [hpe, hpv] at q
    exact q)
  have HFl := Lib.hid (fun F p w' (hs' : S w' F p fs) => hS.floats w' F p fs hs' hnear)
  have HPv := Lib.hid (hpv false)
  have HBe := Lib.hid hB
  have HL := Lib.hid hL
  have HN := Lib.hid (⟨hnL, hl60, hnF, hf12, hW, hs⟩ : nL = bs.length ∧ bs.length ≤ 60 ∧ nF = fs.length ∧ fs.length ≤ 12 ∧ Wood bs ∧ Slim 20 (⟨⟨y, ms, false, spn⟩, l, r, false⟩ : Rl))
  have HH := Lib.hid hh
  rw [← hnL] at HRi HRp
  rw [← hnF] at HRi HRp
  have z0 : Lies (w.alloc (.cells #[.int .i64 y, .slice A n c, .bool spn, .bool l, .bool r] 26)) w.heap.size [.int .i64 y, .slice A n c, .bool spn, .bool l, .bool r] := Lies.new w _ _
  have Z0 := Lib.hid z0
  clear z0 hB hW hnear hl60 hs hh hL hF hnL hnF hf12 hP hQ hD hpv hse hie hpe
  go_enter Tryz.func3, Tryz.ntmps3
  go_upto_region 4 with (first
    | (go_at_call 4; refine (HBe.out _ (ba1 w _)).mono ?_; rintro e w1 ⟨⟨tp, p, F, rfl, ht, hs1, hFF⟩, k1⟩; have K1 := Lib.hid (⟨thru (ba1 w _) k1, ht, hs1, Z0.out.below (by simp) k1⟩ : Below w.heap.size w w1 ∧ T w1 tp bs ∧ S w1 F p fs ∧ Lies w1 w.heap.size [.int .i64 y, .slice A n c, .bool spn, .bool l, .bool r]); clear k1 ht hs1 hFF)
    | (go_at_call 5; refine (hspeaks hT hS hA w1).mono ?_; rintro e w2 ⟨rfl, k2⟩; have K2 := Lib.hid (⟨thru K1.out.1 k2, hT.keep _ _ _ _ K1.out.2.1 k2, keepS hS K1.out.2.2.1 k2, K1.out.2.2.2.below (by simp) k2⟩ : Below w.heap.size w w2 ∧ T w2 tp bs ∧ S w2 F p fs ∧ Lies w2 w.heap.size [.int .i64 y, .slice A n c, .bool spn, .bool l, .bool r]); clear k2 K1))
  have c0 : w2.cell? ⟨w.heap.size, 0, none⟩ = some (.int .i64 y) := K2.out.2.2.2.at' 0
  have c1 : w2.cell? ⟨w.heap.size, 1, none⟩ = some (.slice A n c) := K2.out.2.2.2.at' 1
  have c2 : w2.cell? ⟨w.heap.size, 2, none⟩ = some (.bool spn) := K2.out.2.2.2.at' 2
  have c3 : w2.cell? ⟨w.heap.size, 3, none⟩ = some (.bool l) := K2.out.2.2.2.at' 3
  have c4 : w2.cell? ⟨w.heap.size, 4, none⟩ = some (.bool r) := K2.out.2.2.2.at' 4
  have HTS := Lib.hid (fun w' (j : Below w2.heap.size w2 w') => (⟨hT.keep _ _ _ _ K2.out.2.1 j, keepS hS K2.out.2.2.1 j, thru K2.out.1 j⟩ : T w' tp bs ∧ S w' F p fs ∧ Below w.heap.size w w'))
  go_upto_region 5 with (first
    | (go_at_call 6; refine (hlook_any y ms spn l r A n c w2).mono ?_; rintro e w3 ⟨rfl, k3⟩; have K3 := Lib.hid k3; clear k3 c0 c1 c2 c3 c4))
  generalize hW3 : World.alloc w3 _ = W3
  obtain ⟨b11, hb11⟩ : ∃ b, w3.heap.size = b := ⟨_, rfl⟩
  have z11 : Lies W3 b11 (rlrow ⟨⟨y, ms, false, spn⟩, l, r, false⟩ A n c) := by rw [← hW3, ← hb11]; exact Lies.new w3 _ _
  have k3 : Below w3.heap.size w3 W3 := by rw [← hW3]; exact ba1 _ _
  have hb2 : w2.heap.size ≤ b11 := by rw [← hb11]; exact K3.out.size
  try rw [hb11]
  have K4 := Lib.hid (⟨thru K3.out k3, z11, hb2⟩ : Below w2.heap.size w2 W3 ∧ Lies W3 b11 (rlrow ⟨⟨y, ms, false, spn⟩, l, r, false⟩ A n c) ∧ w2.heap.size ≤ b11)
  clear hW3 hb11 z11 k3 hb2 K3
  obtain ⟨c0, c1, c2, c3, c4, c5, c6⟩ := lkat_of K4.out.2.1
  go_upto_region 6 with (first
    | (go_at_call 7; refine (HTo.out W3 (thru K2.out.1 K4.out.1)).mono ?_; rintro e w4 ⟨rfl, k4⟩; have K5 := Lib.hid (⟨thru K4.out.1 k4, K4.out.2.1.below (by simp) k4, K4.out.2.2⟩ : Below w2.heap.size w2 w4 ∧ Lies w4 b11 (rlrow ⟨⟨y, ms, false, spn⟩, l, r, false⟩ A n c) ∧ w2.heap.size ≤ b11); clear k4 c0 c1 c2 c3 c4 c5 c6 K4))
  generalize hW4 : World.alloc w4 _ = W4
  obtain ⟨b12, hb12⟩ : ∃ b, w4.heap.size = b := ⟨_, rfl⟩
  have z12 : Lies W4 b12 (lprow ⟨y, P, Q, false, spn⟩ D false) := by rw [← hW4, ← hb12]; exact Lies.new w4 _ _
  have k5 : Below w4.heap.size w4 W4 := by rw [← hW4]; exact ba1 _ _
  have hb3 : b11 < b12 := by rw [← hb12]; exact K5.out.2.1.lt (by simp)
  try rw [hb12]
  have K6 := Lib.hid (⟨thru K5.out.1 k5, K5.out.2.1.below (by simp) k5, z12, K5.out.2.2, hb3⟩ : Below w2.heap.size w2 W4 ∧ Lies W4 b11 (rlrow ⟨⟨y, ms, false, spn⟩, l, r, false⟩ A n c) ∧ Lies W4 b12 (lprow ⟨y, P, Q, false, spn⟩ D false) ∧ w2.heap.size ≤ b11 ∧ b11 < b12)
  clear hW4 hb12 z12 k5 hb3 K5
  obtain ⟨c0, c1, c2, c3, c4, c5, c6⟩ := lpat_of K6.out.2.2.1
  obtain ⟨f0, f1, f2, f3, f4, f5, f6⟩ := lkfr_of K6.out.2.2.1
  go_upto_region 7 with fail
  generalize hV : World.setCell W4 _ _ = V
  have zV : Below w2.heap.size w2 V ∧ Lies V b11 (rlrow ⟨⟨y, ms, false, spn⟩, l, r, false⟩ A n c) ∧ Lies V b12 (lprow ⟨y, P, Q, false, spn⟩ D true) := by
    rw [← hV]
    have sv := Save.set (w := W4) b12 6 (.bool true)
    exact ⟨K6.out.1.trans (sv.blw (by have := K6.out.2.2.2; omega) K6.out.1.size), K6.out.2.1.save (by simp) sv (by have := K6.out.2.2.2.2; omega), K6.out.2.2.1.set 6 (.bool true) (by simp)⟩
  have HV := Lib.hid zV
  clear zV hV K6 c0 c1 c2 c3 c4 c5 c6 f0 f1 f2 f3 f4 f5 f6
  go_wp2_with fail
  go_loopw [42] (fun i wr => ∃ k : Nat, k ≤ nL ∧ i = .int .i64 (k : Int) ∧ Hid (Below w2.heap.size w2 wr ∧ Lies wr b11 (rlrow ⟨⟨y, ms, false, spn⟩, l, r, false⟩ A n c) ∧ Lies wr b12 (lprow ⟨y, P, Q, false, spn⟩ D true))) (fun i _ => nL - (intOf i).toNat)
  case atStart => exact ⟨0, Nat.zero_le _, rfl, HV⟩
  case round =>
    obtain ⟨k, hk, rfl, H⟩ := hrel
    by_cases hlt : k < nL
    · have hki : (k : Int) < (nL : Int) := by omega
      have hk0 : ¬ (k : Int) < 0 := by omega
      have hwk : IntKind.i64.wrap ((k : Int) + 1) = (k : Int) + 1 := by have := HN.out; exact IntWalk.i64_in _ (by omega)
      have hkb : k < bs.length := by have := HN.out; omega
      obtain ⟨b, hb⟩ : ∃ b, bs.getD k noB = b := ⟨_, rfl⟩
      obtain ⟨ad1, hA1, hadB, hat⟩ := (HL.out.thru (HTS.out wr H.out.1).2.2) k hkb
      obtain rfl : ad0 = ad1 := by injection hA1
      rw [hb] at hat
      obtain ⟨d0, d1, d2, d3, d4, d5, d6, d7, d8, d9, d10, d11, d12, d13⟩ := hat
      have HKb := Lib.hid (⟨hkb, hb⟩ : k < bs.length ∧ bs.getD k noB = b)
      clear hA1 hadB hb hkb
      go_upto_region 10 with fail
      clear d0 d1 d2 d3 d4 d5 d6 d7 d8 d9 d10 d11 d12 d13
      generalize hW9 : World.alloc wr _ = W9
      obtain ⟨b14, hb14⟩ : ∃ b, wr.heap.size = b := ⟨_, rfl⟩
      have z14 : At W9 b14 b := by rw [← hW9, ← hb14]; exact At.of_block (heap_alloc_new wr _)
      have k9 : Below wr.heap.size wr W9 := by rw [← hW9]; exact ba1 _ _
      try rw [hb14]
      have K9 := Lib.hid (⟨thru H.out.1 k9, H.out.2.1.below (by simp) k9, H.out.2.2.below (by simp) k9, z14⟩ : Below w2.heap.size w2 W9 ∧ Lies W9 b11 (rlrow ⟨⟨y, ms, false, spn⟩, l, r, false⟩ A n c) ∧ Lies W9 b12 (lprow ⟨y, P, Q, false, spn⟩ D true) ∧ At W9 b14 b)
      clear hW9 hb14 z14 k9 H
      have HZ := Lib.hid (fun st w' G (hw : Draw.quiet W9 st w' G) => (⟨K9.out.2.1.below (by simp) hw.1, HTS.out w' (thru K9.out.1 hw.1)⟩ : Lies w' b11 (rlrow ⟨⟨y, ms, false, spn⟩, l, r, false⟩ A n c) ∧ T w' tp bs ∧ S w' F p fs ∧ Below w.heap.size w w'))
      have hbk : asks bs (k : Int) = (b.k == 1 || b.k == 4) := by unfold asks; rw [boxT_nat HKb.out.1, HKb.out.2]; simp [hasT_nat HKb.out.1]
      by_cases hak : (b.k == 1 || b.k == 4) = true
      · have hti : intoT bs fs (k : Int) ⟨⟨y, ms, false, spn⟩, l, r, false⟩ = intoF bs fs bs.length k ⟨⟨y, ms, false, spn⟩, l, r, false⟩ := by unfold intoT; rw [hbk, if_pos (by rw [hak]; rfl)]; rfl
        have htp : pastT bs fs (k : Int) ⟨⟨y, ms, false, spn⟩, l, r, false⟩ = pastF bs fs bs.length k ⟨⟨y, ms, false, spn⟩, l, r, false⟩ := by unfold pastT; rw [hbk, if_pos (by rw [hak]; rfl)]; rfl
        obtain ⟨RI, hRI⟩ : ∃ R, intoF bs fs bs.length k ⟨⟨y, ms, false, spn⟩, l, r, false⟩ = R := ⟨_, rfl⟩
        obtain ⟨RP, hRP⟩ : ∃ R, pastF bs fs bs.length k ⟨⟨y, ms, false, spn⟩, l, r, false⟩ = R := ⟨_, rfl⟩
        have hen := (en_spec (dOf bs) bs.length k HKb.out.1).2.1
        have hfi : FineR RI.x := by rw [← hRI]; exact (HN.out.2.2.2.2.2.less (intoF_less (fs := fs) HN.out.2.2.2.2.1.marg bs.length k HKb.out.1 (by omega) ⟨⟨y, ms, false, spn⟩, l, r, false⟩) (Nat.le_refl _)).fine (by have := HN.out; omega)
        have hfp : FineR RP.x := by rw [← hRP]; exact (HN.out.2.2.2.2.2.less (past_less (fs := fs) HN.out.2.2.2.2.1.marg bs.length k HKb.out.1 (by omega) ⟨⟨y, ms, false, spn⟩, l, r, false⟩) (Nat.le_refl _)).fine (by have := HN.out; omega)
        obtain ⟨⟨iy, ip, iq, ih, isp⟩, his⟩ : ∃ S, RI.x.sp = S := ⟨_, rfl⟩
        obtain ⟨iD, hid⟩ : ∃ D, sidesI RI.l RI.r = D := ⟨_, rfl⟩
        obtain ⟨ie, hie⟩ : ∃ e, RI.e = e := ⟨_, rfl⟩
        have hiv : Rl.pv RI = lpv ⟨iy, ip, iq, ih, isp⟩ iD ie := by unfold Rl.pv; rw [his, hid, hie]
        obtain ⟨⟨py, pp, pq, ph, psp⟩, hps⟩ : ∃ S, RP.x.sp = S := ⟨_, rfl⟩
        obtain ⟨pD, hpd⟩ : ∃ D, sidesI RP.l RP.r = D := ⟨_, rfl⟩
        obtain ⟨pe, hpe⟩ : ∃ e, RP.e = e := ⟨_, rfl⟩
        have hpv' : Rl.pv RP = lpv ⟨py, pp, pq, ph, psp⟩ pD pe := by unfold Rl.pv; rw [hps, hpd, hpe]
        have HCi := Lib.hid (fun w' (q : T w' tp bs ∧ S w' F p fs ∧ Below w.heap.size w w') => by
          have z := HIn.out (k : Int) tp F p w' q.1 q.2.1
          rw [hti, hRI, hiv] at z
          exact z)
        have HCp := Lib.hid (fun w' (q : T w' tp bs ∧ S w' F p fs ∧ Below w.heap.size w w') => by
          have z := HPa.out (k : Int) tp F p w' q.1 q.2.1
          rw [htp, hRP, hpv'] at z
          exact z)
        have hkn : k < nL := by have := HN.out.1; have := HKb.out.1; omega
        have hRI2 : intoF bs fs nL k ⟨⟨y, ms, false, spn⟩, l, r, false⟩ = RI := by rw [HN.out.1]; exact hRI
        have hRP2 : pastF bs fs nL k ⟨⟨y, ms, false, spn⟩, l, r, false⟩ = RP := by rw [HN.out.1]; exact hRP
        have HRi2 := Lib.hid (fun w' (j : Below w.heap.size w w') => by
          have z := HRi.out k hkn w' j
          rw [hRI2] at z
          exact rlr_of_I z)
        have HRp2 := Lib.hid (fun w' (j : Below w.heap.size w w') => by
          have z := HRp.out k hkn w' j
          rw [hRP2] at z
          exact rlr_of_P z (HH.out.below j))
        have HTi := Lib.hid (fun A8 n8 c8 w' (h8 : Held w' A8 n8 c8 RI.x.ms) => by
          have z := hto_any RI A8 n8 c8 w' h8 hfi
          rw [hiv] at z
          exact z)
        have HTp := Lib.hid (fun A8 n8 c8 w' (h8 : Held w' A8 n8 c8 RP.x.ms) => by
          have z := hto_any RP A8 n8 c8 w' h8 hfp
          rw [hpv'] at z
          exact z)
        have HAk := Lib.hid hak
        clear hti htp hRI2 hRP2 hkn hRI hRP hen hfi hfp his hid hie hiv hps hpd hpe hpv' hbk hak
        refine Draw.wp_region_drawn (Draw.quiet W9) 0 [.val (.pointer (some tp)), .val (.pointer (some p)), .val (.int .i64 (k : Int)), .val (.agg #[.int .i64 y, .slice A n c, .bool false, .bool spn, .bool l, .bool r, .bool false]), .val (.agg #[.int .i64 y, .int .i64 P, .int .i64 Q, .bool false, .bool spn, .int .i64 D, .bool false]), .val (.agg #[.int .i64 iy, .int .i64 ip, .int .i64 iq, .bool ih, .bool isp, .int .i64 iD, .bool ie]), .val (.pointer (some tp)), .val (.pointer (some p)), .val (.int .i64 (k : Int)), .val (.agg #[.int .i64 y, .slice A n c, .bool false, .bool spn, .bool l, .bool r, .bool false]), .val (.agg #[.int .i64 y, .int .i64 P, .int .i64 Q, .bool false, .bool spn, .int .i64 D, .bool false]), .val (.agg #[.int .i64 py, .int .i64 pp, .int .i64 pq, .bool ph, .bool psp, .int .i64 pD, .bool pe]), .box (.cells #[.int .i64 0, .int .i64 0, .int .i64 0, .bool false, .bool false, .int .i64 0, .bool false] 42), .box (.cells #[.int .i64 0, .int .i64 0, .int .i64 0, .bool false, .bool false, .int .i64 0, .bool false] 42), .put 12 (.cells #[.int .i64 iy, .int .i64 ip, .int .i64 iq, .bool ih, .bool isp, .int .i64 iD, .bool ie] 42), .put 13 (.cells #[.int .i64 py, .int .i64 pp, .int .i64 pq, .bool ph, .bool psp, .int .i64 pD, .bool pe] 42)] (by kernel_rfl) (by kernel_rfl) (by kernel_rfl) (Draw.quiet_kept W9) (Draw.quiet_start W9) ?_ ?_
        · simp only [Draw.fill, Draw.Leave.value]
          refine ⟨?_, ?_, ?_, ?_, ?_, ?_, ?_, ?_, ?_, ?_, ?_, ?_, ?_, ?_, ?_, ?_, trivial⟩
          · intro st gg w' G hw hk
            go_simp
            exact ⟨rfl, rfl⟩
          · intro st gg w' G hw hk
            go_simp
            exact ⟨rfl, rfl⟩
          · intro st gg w' G hw hk
            go_simp
            exact ⟨rfl, rfl⟩
          · intro st gg w' G hw hk
            have q0 : w'.cell? ⟨b11, 0, none⟩ = some (.int .i64 y) := ((HZ.out st w' G hw).1).at' 0
            have q1 : w'.cell? ⟨b11, 1, none⟩ = some (.slice A n c) := ((HZ.out st w' G hw).1).at' 1
            have q2 : w'.cell? ⟨b11, 2, none⟩ = some (.bool false) := ((HZ.out st w' G hw).1).at' 2
            have q3 : w'.cell? ⟨b11, 3, none⟩ = some (.bool spn) := ((HZ.out st w' G hw).1).at' 3
            have q4 : w'.cell? ⟨b11, 4, none⟩ = some (.bool l) := ((HZ.out st w' G hw).1).at' 4
            have q5 : w'.cell? ⟨b11, 5, none⟩ = some (.bool r) := ((HZ.out st w' G hw).1).at' 5
            have q6 : w'.cell? ⟨b11, 6, none⟩ = some (.bool false) := ((HZ.out st w' G hw).1).at' 6
            go_simp
            exact ⟨rfl, rfl⟩
          · intro st gg w' G hw hk
            go_simp
            exact Draw.stays_call (HTo.out w' (HZ.out st w' G hw).2.2.2)
          · intro st gg w' G hw hk
            go_simp
            exact Draw.stays_call (HCi.out w' (HZ.out st w' G hw).2)
          · intro st gg w' G hw hk
            go_simp
            exact ⟨rfl, rfl⟩
          · intro st gg w' G hw hk
            go_simp
            exact ⟨rfl, rfl⟩
          · intro st gg w' G hw hk
            go_simp
            exact ⟨rfl, rfl⟩
          · intro st gg w' G hw hk
            have q0 : w'.cell? ⟨b11, 0, none⟩ = some (.int .i64 y) := ((HZ.out st w' G hw).1).at' 0
            have q1 : w'.cell? ⟨b11, 1, none⟩ = some (.slice A n c) := ((HZ.out st w' G hw).1).at' 1
            have q2 : w'.cell? ⟨b11, 2, none⟩ = some (.bool false) := ((HZ.out st w' G hw).1).at' 2
            have q3 : w'.cell? ⟨b11, 3, none⟩ = some (.bool spn) := ((HZ.out st w' G hw).1).at' 3
            have q4 : w'.cell? ⟨b11, 4, none⟩ = some (.bool l) := ((HZ.out st w' G hw).1).at' 4
            have q5 : w'.cell? ⟨b11, 5, none⟩ = some (.bool r) := ((HZ.out st w' G hw).1).at' 5
            have q6 : w'.cell? ⟨b11, 6, none⟩ = some (.bool false) := ((HZ.out st w' G hw).1).at' 6
            go_simp
            exact ⟨rfl, rfl⟩
          · intro st gg w' G hw hk
            go_simp
            exact Draw.stays_call (HTo.out w' (HZ.out st w' G hw).2.2.2)
          · intro st gg w' G hw hk
            go_simp
            exact Draw.stays_call (HCp.out w' (HZ.out st w' G hw).2)
          · intro st gg w' G hw hk
            go_simp
          · intro st gg w' G hw hk
            go_simp
          · intro st gg w' G hw y b hy hob hb
            obtain rfl : Draw.Leave.box _ = y := Option.some.inj hy
            obtain rfl : _ = b := Option.some.inj hob
            have hb0 := lies_of (xs := zeroLp) hb
            obtain ⟨r0, r1, r2, r3, r4, r5, r6⟩ := lpat_of (x := zeroSp) (d := 0) (e := false) hb0
            obtain ⟨f0, f1, f2, f3, f4, f5, f6⟩ := lkfr_of hb0
            refine ⟨_, ?_, only_putP zeroSp ⟨iy, ip, iq, ih, isp⟩ 0 iD false ie hb⟩
            clear hb0
            clear hb
            go_simp
            rfl
          · intro st gg w' G hw y b hy hob hb
            obtain rfl : Draw.Leave.box _ = y := Option.some.inj hy
            obtain rfl : _ = b := Option.some.inj hob
            have hb0 := lies_of (xs := zeroLp) hb
            obtain ⟨r0, r1, r2, r3, r4, r5, r6⟩ := lpat_of (x := zeroSp) (d := 0) (e := false) hb0
            obtain ⟨f0, f1, f2, f3, f4, f5, f6⟩ := lkfr_of hb0
            refine ⟨_, ?_, only_putP zeroSp ⟨py, pp, pq, ph, psp⟩ 0 pD false pe hb⟩
            clear hb0
            clear hb
            go_simp
            rfl
        intro gg w5 G5 k5 hbox hput hap
        have p15 := lies_of (xs := (lprow ⟨iy, ip, iq, ih, isp⟩ iD ie)) (hput 14 12 _ rfl)
        have p16 := lies_of (xs := (lprow ⟨py, pp, pq, ph, psp⟩ pD pe)) (hput 15 13 _ rfl)
        simp only [Draw.fill, Draw.Leave.value]
        go_simp
        generalize gg 12 = b15 at *
        generalize gg 13 = b16 at *
        have E5 := Lib.hid (⟨thru K9.out.1 k5.1, K9.out.2.1.below (by simp) k5.1, K9.out.2.2.1.below (by simp) k5.1, K9.out.2.2.2.below K9.out.2.2.2.lt k5.1, p15, p16⟩ : Below w2.heap.size w2 w5 ∧ Lies w5 b11 (rlrow ⟨⟨y, ms, false, spn⟩, l, r, false⟩ A n c) ∧ Lies w5 b12 (lprow ⟨y, P, Q, false, spn⟩ D true) ∧ At w5 b14 b ∧ Lies w5 b15 (lprow ⟨iy, ip, iq, ih, isp⟩ iD ie) ∧ Lies w5 b16 (lprow ⟨py, pp, pq, ph, psp⟩ pD pe))
        clear p15 p16 k5 hbox hput hap HZ K9
        obtain ⟨-, x1, -⟩ := E5.out.2.2.2.1
        go_upto_region 11 with fail
        go_cut [66] (fun tt wx => tt = .bool false ∧ wx = w5)
        case first =>
          have hak := HAk.out
          by_cases h1 : b.k = 1
          · have hb1 : (b.k != 1) = false := by simp; omega
            clear h1 hak
            go_wp2_with fail
            go_meet
            exact ⟨rfl, rfl⟩
          · have hb1 : (b.k != 1) = true := by simp; omega
            have hb4 : (b.k != 4) = false := by simp at hak ⊢; omega
            clear h1 hak
            go_wp2_with fail
            go_meet
            exact ⟨rfl, rfl⟩
        case rest =>
        obtain ⟨rfl, rfl⟩ := hcut
        clear x1
        have HZ := Lib.hid (fun w' (j : Below wc.heap.size wc w') => (⟨E5.out.2.1.below (by simp) j, E5.out.2.2.1.below (by simp) j, E5.out.2.2.2.2.1.below (by simp) j, E5.out.2.2.2.2.2.below (by simp) j, HTS.out w' (thru E5.out.1 j)⟩ : Lies w' b11 (rlrow ⟨⟨y, ms, false, spn⟩, l, r, false⟩ A n c) ∧ Lies w' b12 (lprow ⟨y, P, Q, false, spn⟩ D true) ∧ Lies w' b15 (lprow ⟨iy, ip, iq, ih, isp⟩ iD ie) ∧ Lies w' b16 (lprow ⟨py, pp, pq, ph, psp⟩ pD pe) ∧ T w' tp bs ∧ S w' F p fs ∧ Below w.heap.size w w'))
        go_upto_region 14 with fail
        refine HoldAll.wp_region_hold_all [.val (.agg #[.int .i64 iy, .int .i64 ip, .int .i64 iq, .bool ih, .bool isp, .int .i64 iD, .bool ie]), .val (.slice (some ad0) nL cL), .val (.slice AF nF cF), .val (.int .i64 (k : Int)), .val (.agg #[.int .i64 y, .slice A n c, .bool false, .bool spn, .bool l, .bool r, .bool false]), .some (RlR RI), .val (.agg #[.int .i64 iy, .int .i64 ip, .int .i64 iq, .bool ih, .bool isp, .int .i64 iD, .bool ie]), .val (.bool false), .val (.bool false), .val (.agg #[.int .i64 py, .int .i64 pp, .int .i64 pq, .bool ph, .bool psp, .int .i64 pD, .bool pe]), .val (.slice (some ad0) nL cL), .val (.slice AF nF cF), .val (.int .i64 (k : Int)), .val (.agg #[.int .i64 y, .slice A n c, .bool false, .bool spn, .bool l, .bool r, .bool false]), .some (RlR RP), .val (.agg #[.int .i64 py, .int .i64 pp, .int .i64 pq, .bool ph, .bool psp, .int .i64 pD, .bool pe]), .val (.bool false), .val (.bool false), .val (.bool false), .val (.pointer (some tp)), .val (.pointer (some p)), .val (.int .i64 (k : Int)), .val (.agg #[.int .i64 y, .int .i64 P, .int .i64 Q, .bool false, .bool spn, .int .i64 D, .bool true]), .val (.agg #[.int .i64 y, .int .i64 P, .int .i64 Q, .bool false, .bool spn, .int .i64 D, .bool true]), .val (.agg #[.int .i64 y, .int .i64 P, .int .i64 Q, .bool false, .bool spn, .int .i64 D, .bool true]), .val (.bool false), .val (.bool false), .val (.bool false), .val (.pointer (some tp)), .val (.pointer (some p)), .val (.int .i64 (k : Int)), .val (.agg #[.int .i64 y, .int .i64 P, .int .i64 Q, .bool false, .bool spn, .int .i64 D, .bool true]), .val (.agg #[.int .i64 y, .int .i64 P, .int .i64 Q, .bool false, .bool spn, .int .i64 D, .bool true]), .val (.agg #[.int .i64 y, .int .i64 P, .int .i64 Q, .bool false, .bool spn, .int .i64 D, .bool true]), .val (.bool false), .val (.bool false)] (by kernel_rfl) (by kernel_rfl) (by kernel_rfl) ?_ ?_
        · simp only [Hold.fill, Hold.Leave.value]
          refine ⟨?_, ?_, ?_, ?_, ?_, ?_, ?_, ?_, ?_, ?_, ?_, ?_, ?_, ?_, ?_, ?_, ?_, ?_, ?_, ?_, ?_, ?_, ?_, ?_, ?_, ?_, ?_, ?_, ?_, ?_, ?_, ?_, ?_, ?_, ?_, ?_, trivial⟩
          · intro gg w' hw hk
            have q0 : w'.cell? ⟨b15, 0, none⟩ = some (.int .i64 iy) := ((HZ.out w' hw).2.2.1).at' 0
            have q1 : w'.cell? ⟨b15, 1, none⟩ = some (.int .i64 ip) := ((HZ.out w' hw).2.2.1).at' 1
            have q2 : w'.cell? ⟨b15, 2, none⟩ = some (.int .i64 iq) := ((HZ.out w' hw).2.2.1).at' 2
            have q3 : w'.cell? ⟨b15, 3, none⟩ = some (.bool ih) := ((HZ.out w' hw).2.2.1).at' 3
            have q4 : w'.cell? ⟨b15, 4, none⟩ = some (.bool isp) := ((HZ.out w' hw).2.2.1).at' 4
            have q5 : w'.cell? ⟨b15, 5, none⟩ = some (.int .i64 iD) := ((HZ.out w' hw).2.2.1).at' 5
            have q6 : w'.cell? ⟨b15, 6, none⟩ = some (.bool ie) := ((HZ.out w' hw).2.2.1).at' 6
            go_simp
            exact ⟨rfl, rfl⟩
          · intro gg w' hw hk
            go_simp
            exact ⟨rfl, rfl⟩
          · intro gg w' hw hk
            go_simp
            exact ⟨rfl, rfl⟩
          · intro gg w' hw hk
            go_simp
            exact ⟨rfl, rfl⟩
          · intro gg w' hw hk
            have q0 : w'.cell? ⟨b11, 0, none⟩ = some (.int .i64 y) := ((HZ.out w' hw).1).at' 0
            have q1 : w'.cell? ⟨b11, 1, none⟩ = some (.slice A n c) := ((HZ.out w' hw).1).at' 1
            have q2 : w'.cell? ⟨b11, 2, none⟩ = some (.bool false) := ((HZ.out w' hw).1).at' 2
            have q3 : w'.cell? ⟨b11, 3, none⟩ = some (.bool spn) := ((HZ.out w' hw).1).at' 3
            have q4 : w'.cell? ⟨b11, 4, none⟩ = some (.bool l) := ((HZ.out w' hw).1).at' 4
            have q5 : w'.cell? ⟨b11, 5, none⟩ = some (.bool r) := ((HZ.out w' hw).1).at' 5
            have q6 : w'.cell? ⟨b11, 6, none⟩ = some (.bool false) := ((HZ.out w' hw).1).at' 6
            go_simp
            exact ⟨rfl, rfl⟩
          · refine ⟨rlr_keeps _, ?_⟩
            intro gg w' hw hk
            go_simp
            exact Hold.gives_call (HRi2.out w' (HZ.out w' hw).2.2.2.2.2.2)
          · intro gg w' hw hk
            obtain ⟨A8, n8, c8, e8, h8⟩ := hk ⟨5, .data⟩ (by simp) rfl _ rfl
            replace e8 : gg 5 = rlv RI A8 n8 c8 := e8
            go_simp
            exact Hold.stays_call (HTi.out A8 n8 c8 w' h8)
          · intro gg w' hw hk
            go_simp
            exact ⟨rfl, rfl⟩
          · intro gg w' hw hk
            go_simp
            exact ⟨rfl, rfl⟩
          · intro gg w' hw hk
            have q0 : w'.cell? ⟨b16, 0, none⟩ = some (.int .i64 py) := ((HZ.out w' hw).2.2.2.1).at' 0
            have q1 : w'.cell? ⟨b16, 1, none⟩ = some (.int .i64 pp) := ((HZ.out w' hw).2.2.2.1).at' 1
            have q2 : w'.cell? ⟨b16, 2, none⟩ = some (.int .i64 pq) := ((HZ.out w' hw).2.2.2.1).at' 2
            have q3 : w'.cell? ⟨b16, 3, none⟩ = some (.bool ph) := ((HZ.out w' hw).2.2.2.1).at' 3
            have q4 : w'.cell? ⟨b16, 4, none⟩ = some (.bool psp) := ((HZ.out w' hw).2.2.2.1).at' 4
            have q5 : w'.cell? ⟨b16, 5, none⟩ = some (.int .i64 pD) := ((HZ.out w' hw).2.2.2.1).at' 5
            have q6 : w'.cell? ⟨b16, 6, none⟩ = some (.bool pe) := ((HZ.out w' hw).2.2.2.1).at' 6
            go_simp
            exact ⟨rfl, rfl⟩
          · intro gg w' hw hk
            go_simp
            exact ⟨rfl, rfl⟩
          · intro gg w' hw hk
            go_simp
            exact ⟨rfl, rfl⟩
          · intro gg w' hw hk
            go_simp
            exact ⟨rfl, rfl⟩
          · intro gg w' hw hk
            have q0 : w'.cell? ⟨b11, 0, none⟩ = some (.int .i64 y) := ((HZ.out w' hw).1).at' 0
            have q1 : w'.cell? ⟨b11, 1, none⟩ = some (.slice A n c) := ((HZ.out w' hw).1).at' 1
            have q2 : w'.cell? ⟨b11, 2, none⟩ = some (.bool false) := ((HZ.out w' hw).1).at' 2
            have q3 : w'.cell? ⟨b11, 3, none⟩ = some (.bool spn) := ((HZ.out w' hw).1).at' 3
            have q4 : w'.cell? ⟨b11, 4, none⟩ = some (.bool l) := ((HZ.out w' hw).1).at' 4
            have q5 : w'.cell? ⟨b11, 5, none⟩ = some (.bool r) := ((HZ.out w' hw).1).at' 5
            have q6 : w'.cell? ⟨b11, 6, none⟩ = some (.bool false) := ((HZ.out w' hw).1).at' 6
            go_simp
            exact ⟨rfl, rfl⟩
          · refine ⟨rlr_keeps _, ?_⟩
            intro gg w' hw hk
            go_simp
            exact Hold.gives_call (HRp2.out w' (HZ.out w' hw).2.2.2.2.2.2)
          · intro gg w' hw hk
            obtain ⟨A8, n8, c8, e8, h8⟩ := hk ⟨14, .data⟩ (by simp) rfl _ rfl
            replace e8 : gg 14 = rlv RP A8 n8 c8 := e8
            go_simp
            exact Hold.stays_call (HTp.out A8 n8 c8 w' h8)
          · intro gg w' hw hk
            go_simp
            exact ⟨rfl, rfl⟩
          · intro gg w' hw hk
            go_simp
            exact ⟨rfl, rfl⟩
          · intro gg w' hw hk
            go_simp
            exact ⟨rfl, rfl⟩
          · intro gg w' hw hk
            go_simp
            exact ⟨rfl, rfl⟩
          · intro gg w' hw hk
            go_simp
            exact ⟨rfl, rfl⟩
          · intro gg w' hw hk
            go_simp
            exact ⟨rfl, rfl⟩
          · intro gg w' hw hk
            have q0 : w'.cell? ⟨b12, 0, none⟩ = some (.int .i64 y) := ((HZ.out w' hw).2.1).at' 0
            have q1 : w'.cell? ⟨b12, 1, none⟩ = some (.int .i64 P) := ((HZ.out w' hw).2.1).at' 1
            have q2 : w'.cell? ⟨b12, 2, none⟩ = some (.int .i64 Q) := ((HZ.out w' hw).2.1).at' 2
            have q3 : w'.cell? ⟨b12, 3, none⟩ = some (.bool false) := ((HZ.out w' hw).2.1).at' 3
            have q4 : w'.cell? ⟨b12, 4, none⟩ = some (.bool spn) := ((HZ.out w' hw).2.1).at' 4
            have q5 : w'.cell? ⟨b12, 5, none⟩ = some (.int .i64 D) := ((HZ.out w' hw).2.1).at' 5
            have q6 : w'.cell? ⟨b12, 6, none⟩ = some (.bool true) := ((HZ.out w' hw).2.1).at' 6
            go_simp
            exact ⟨rfl, rfl⟩
          · intro gg w' hw hk
            go_simp
            exact Hold.stays_call (HIe.out (k : Int) tp F p w' (HZ.out w' hw).2.2.2.2.1 (HZ.out w' hw).2.2.2.2.2.1)
          · intro gg w' hw hk
            have q0 : w'.cell? ⟨b12, 0, none⟩ = some (.int .i64 y) := ((HZ.out w' hw).2.1).at' 0
            have q1 : w'.cell? ⟨b12, 1, none⟩ = some (.int .i64 P) := ((HZ.out w' hw).2.1).at' 1
            have q2 : w'.cell? ⟨b12, 2, none⟩ = some (.int .i64 Q) := ((HZ.out w' hw).2.1).at' 2
            have q3 : w'.cell? ⟨b12, 3, none⟩ = some (.bool false) := ((HZ.out w' hw).2.1).at' 3
            have q4 : w'.cell? ⟨b12, 4, none⟩ = some (.bool spn) := ((HZ.out w' hw).2.1).at' 4
            have q5 : w'.cell? ⟨b12, 5, none⟩ = some (.int .i64 D) := ((HZ.out w' hw).2.1).at' 5
            have q6 : w'.cell? ⟨b12, 6, none⟩ = some (.bool true) := ((HZ.out w' hw).2.1).at' 6
            go_simp
            exact ⟨rfl, rfl⟩
          · intro gg w' hw hk
            go_simp
            exact ⟨rfl, rfl⟩
          · intro gg w' hw hk
            go_simp
            exact ⟨rfl, rfl⟩
          · intro gg w' hw hk
            go_simp
            exact ⟨rfl, rfl⟩
          · intro gg w' hw hk
            go_simp
            exact ⟨rfl, rfl⟩
          · intro gg w' hw hk
            go_simp
            exact ⟨rfl, rfl⟩
          · intro gg w' hw hk
            go_simp
            exact ⟨rfl, rfl⟩
          · intro gg w' hw hk
            have q0 : w'.cell? ⟨b12, 0, none⟩ = some (.int .i64 y) := ((HZ.out w' hw).2.1).at' 0
            have q1 : w'.cell? ⟨b12, 1, none⟩ = some (.int .i64 P) := ((HZ.out w' hw).2.1).at' 1
            have q2 : w'.cell? ⟨b12, 2, none⟩ = some (.int .i64 Q) := ((HZ.out w' hw).2.1).at' 2
            have q3 : w'.cell? ⟨b12, 3, none⟩ = some (.bool false) := ((HZ.out w' hw).2.1).at' 3
            have q4 : w'.cell? ⟨b12, 4, none⟩ = some (.bool spn) := ((HZ.out w' hw).2.1).at' 4
            have q5 : w'.cell? ⟨b12, 5, none⟩ = some (.int .i64 D) := ((HZ.out w' hw).2.1).at' 5
            have q6 : w'.cell? ⟨b12, 6, none⟩ = some (.bool true) := ((HZ.out w' hw).2.1).at' 6
            go_simp
            exact ⟨rfl, rfl⟩
          · intro gg w' hw hk
            go_simp
            exact Hold.stays_call (HPe.out (k : Int) tp F p w' (HZ.out w' hw).2.2.2.2.1 (HZ.out w' hw).2.2.2.2.2.1)
          · intro gg w' hw hk
            have q0 : w'.cell? ⟨b12, 0, none⟩ = some (.int .i64 y) := ((HZ.out w' hw).2.1).at' 0
            have q1 : w'.cell? ⟨b12, 1, none⟩ = some (.int .i64 P) := ((HZ.out w' hw).2.1).at' 1
            have q2 : w'.cell? ⟨b12, 2, none⟩ = some (.int .i64 Q) := ((HZ.out w' hw).2.1).at' 2
            have q3 : w'.cell? ⟨b12, 3, none⟩ = some (.bool false) := ((HZ.out w' hw).2.1).at' 3
            have q4 : w'.cell? ⟨b12, 4, none⟩ = some (.bool spn) := ((HZ.out w' hw).2.1).at' 4
            have q5 : w'.cell? ⟨b12, 5, none⟩ = some (.int .i64 D) := ((HZ.out w' hw).2.1).at' 5
            have q6 : w'.cell? ⟨b12, 6, none⟩ = some (.bool true) := ((HZ.out w' hw).2.1).at' 6
            go_simp
            exact ⟨rfl, rfl⟩
          · intro gg w' hw hk
            go_simp
            exact ⟨rfl, rfl⟩
          · intro gg w' hw hk
            go_simp
            exact ⟨rfl, rfl⟩
        intro gg w7 k7 hgg
        clear hgg
        simp only [Hold.fill, Hold.Leave.value]
        have K7 := Lib.hid (⟨thru E5.out.1 k7, (HZ.out w7 k7).1, (HZ.out w7 k7).2.1⟩ : Below w2.heap.size w2 w7 ∧ Lies w7 b11 (rlrow ⟨⟨y, ms, false, spn⟩, l, r, false⟩ A n c) ∧ Lies w7 b12 (lprow ⟨y, P, Q, false, spn⟩ D true))
        clear k7 HZ E5 HCi HCp HRi2 HRp2 HTi HTp
        go_simp
        go_wp2_with fail
        go_roundw
        case rel => exact ⟨k + 1, by omega, by go_num, K7⟩
        case measure => simp [intOf]; omega
      · have hak' : (b.k == 1 || b.k == 4) = false := by simpa using hak
        have hti : intoT bs fs (k : Int) ⟨⟨y, ms, false, spn⟩, l, r, false⟩ = ⟨⟨y, ms, false, spn⟩, l, r, false⟩ := by unfold intoT; rw [hbk, hak']; rfl
        have htp : pastT bs fs (k : Int) ⟨⟨y, ms, false, spn⟩, l, r, false⟩ = ⟨⟨y, ms, false, spn⟩, l, r, false⟩ := by unfold pastT; rw [hbk, hak']; rfl
        have HCi := Lib.hid (fun w' (q : T w' tp bs ∧ S w' F p fs ∧ Below w.heap.size w w') => by
          have z := HIn.out (k : Int) tp F p w' q.1 q.2.1
          rw [hti, HPv.out] at z
          exact z)
        have HCp := Lib.hid (fun w' (q : T w' tp bs ∧ S w' F p fs ∧ Below w.heap.size w w') => by
          have z := HPa.out (k : Int) tp F p w' q.1 q.2.1
          rw [htp, HPv.out] at z
          exact z)
        have hn1 : (b.k != 1) = true := by simp at hak' ⊢; omega
        have hn4 : (b.k != 4) = true := by simp at hak' ⊢; omega
        have HN1 := Lib.hid (⟨hn1, hn4⟩ : (b.k != 1) = true ∧ (b.k != 4) = true)
        clear hti htp hbk hak hak' hn1 hn4
        refine Draw.wp_region_drawn (Draw.quiet W9) 0 [.val (.pointer (some tp)), .val (.pointer (some p)), .val (.int .i64 (k : Int)), .val (.agg #[.int .i64 y, .slice A n c, .bool false, .bool spn, .bool l, .bool r, .bool false]), .val (.agg #[.int .i64 y, .int .i64 P, .int .i64 Q, .bool false, .bool spn, .int .i64 D, .bool false]), .val (.agg #[.int .i64 y, .int .i64 P, .int .i64 Q, .bool false, .bool spn, .int .i64 D, .bool false]), .val (.pointer (some tp)), .val (.pointer (some p)), .val (.int .i64 (k : Int)), .val (.agg #[.int .i64 y, .slice A n c, .bool false, .bool spn, .bool l, .bool r, .bool false]), .val (.agg #[.int .i64 y, .int .i64 P, .int .i64 Q, .bool false, .bool spn, .int .i64 D, .bool false]), .val (.agg #[.int .i64 y, .int .i64 P, .int .i64 Q, .bool false, .bool spn, .int .i64 D, .bool false]), .box (.cells #[.int .i64 0, .int .i64 0, .int .i64 0, .bool false, .bool false, .int .i64 0, .bool false] 42), .box (.cells #[.int .i64 0, .int .i64 0, .int .i64 0, .bool false, .bool false, .int .i64 0, .bool false] 42), .put 12 (.cells #[.int .i64 y, .int .i64 P, .int .i64 Q, .bool false, .bool spn, .int .i64 D, .bool false] 42), .put 13 (.cells #[.int .i64 y, .int .i64 P, .int .i64 Q, .bool false, .bool spn, .int .i64 D, .bool false] 42)] (by kernel_rfl) (by kernel_rfl) (by kernel_rfl) (Draw.quiet_kept W9) (Draw.quiet_start W9) ?_ ?_
        · simp only [Draw.fill, Draw.Leave.value]
          refine ⟨?_, ?_, ?_, ?_, ?_, ?_, ?_, ?_, ?_, ?_, ?_, ?_, ?_, ?_, ?_, ?_, trivial⟩
          · intro st gg w' G hw hk
            go_simp
            exact ⟨rfl, rfl⟩
          · intro st gg w' G hw hk
            go_simp
            exact ⟨rfl, rfl⟩
          · intro st gg w' G hw hk
            go_simp
            exact ⟨rfl, rfl⟩
          · intro st gg w' G hw hk
            have q0 : w'.cell? ⟨b11, 0, none⟩ = some (.int .i64 y) := ((HZ.out st w' G hw).1).at' 0
            have q1 : w'.cell? ⟨b11, 1, none⟩ = some (.slice A n c) := ((HZ.out st w' G hw).1).at' 1
            have q2 : w'.cell? ⟨b11, 2, none⟩ = some (.bool false) := ((HZ.out st w' G hw).1).at' 2
            have q3 : w'.cell? ⟨b11, 3, none⟩ = some (.bool spn) := ((HZ.out st w' G hw).1).at' 3
            have q4 : w'.cell? ⟨b11, 4, none⟩ = some (.bool l) := ((HZ.out st w' G hw).1).at' 4
            have q5 : w'.cell? ⟨b11, 5, none⟩ = some (.bool r) := ((HZ.out st w' G hw).1).at' 5
            have q6 : w'.cell? ⟨b11, 6, none⟩ = some (.bool false) := ((HZ.out st w' G hw).1).at' 6
            go_simp
            exact ⟨rfl, rfl⟩
          · intro st gg w' G hw hk
            go_simp
            exact Draw.stays_call (HTo.out w' (HZ.out st w' G hw).2.2.2)
          · intro st gg w' G hw hk
            go_simp
            exact Draw.stays_call (HCi.out w' (HZ.out st w' G hw).2)
          · intro st gg w' G hw hk
            go_simp
            exact ⟨rfl, rfl⟩
          · intro st gg w' G hw hk
            go_simp
            exact ⟨rfl, rfl⟩
          · intro st gg w' G hw hk
            go_simp
            exact ⟨rfl, rfl⟩
          · intro st gg w' G hw hk
            have q0 : w'.cell? ⟨b11, 0, none⟩ = some (.int .i64 y) := ((HZ.out st w' G hw).1).at' 0
            have q1 : w'.cell? ⟨b11, 1, none⟩ = some (.slice A n c) := ((HZ.out st w' G hw).1).at' 1
            have q2 : w'.cell? ⟨b11, 2, none⟩ = some (.bool false) := ((HZ.out st w' G hw).1).at' 2
            have q3 : w'.cell? ⟨b11, 3, none⟩ = some (.bool spn) := ((HZ.out st w' G hw).1).at' 3
            have q4 : w'.cell? ⟨b11, 4, none⟩ = some (.bool l) := ((HZ.out st w' G hw).1).at' 4
            have q5 : w'.cell? ⟨b11, 5, none⟩ = some (.bool r) := ((HZ.out st w' G hw).1).at' 5
            have q6 : w'.cell? ⟨b11, 6, none⟩ = some (.bool false) := ((HZ.out st w' G hw).1).at' 6
            go_simp
            exact ⟨rfl, rfl⟩
          · intro st gg w' G hw hk
            go_simp
            exact Draw.stays_call (HTo.out w' (HZ.out st w' G hw).2.2.2)
          · intro st gg w' G hw hk
            go_simp
            exact Draw.stays_call (HCp.out w' (HZ.out st w' G hw).2)
          · intro st gg w' G hw hk
            go_simp
          · intro st gg w' G hw hk
            go_simp
          · intro st gg w' G hw y b hy hob hb
            obtain rfl : Draw.Leave.box _ = y := Option.some.inj hy
            obtain rfl : _ = b := Option.some.inj hob
            have hb0 := lies_of (xs := zeroLp) hb
            obtain ⟨r0, r1, r2, r3, r4, r5, r6⟩ := lpat_of (x := zeroSp) (d := 0) (e := false) hb0
            obtain ⟨f0, f1, f2, f3, f4, f5, f6⟩ := lkfr_of hb0
            refine ⟨_, ?_, only_putP zeroSp ⟨y, P, Q, false, spn⟩ 0 D false false hb⟩
            clear hb0
            clear hb
            go_simp
            rfl
          · intro st gg w' G hw y b hy hob hb
            obtain rfl : Draw.Leave.box _ = y := Option.some.inj hy
            obtain rfl : _ = b := Option.some.inj hob
            have hb0 := lies_of (xs := zeroLp) hb
            obtain ⟨r0, r1, r2, r3, r4, r5, r6⟩ := lpat_of (x := zeroSp) (d := 0) (e := false) hb0
            obtain ⟨f0, f1, f2, f3, f4, f5, f6⟩ := lkfr_of hb0
            refine ⟨_, ?_, only_putP zeroSp ⟨y, P, Q, false, spn⟩ 0 D false false hb⟩
            clear hb0
            clear hb
            go_simp
            rfl
        intro gg w5 G5 k5 hbox hput hap
        have p15 := lies_of (xs := (lprow ⟨y, P, Q, false, spn⟩ D false)) (hput 14 12 _ rfl)
        have p16 := lies_of (xs := (lprow ⟨y, P, Q, false, spn⟩ D false)) (hput 15 13 _ rfl)
        simp only [Draw.fill, Draw.Leave.value]
        go_simp
        generalize gg 12 = b15 at *
        generalize gg 13 = b16 at *
        have E5 := Lib.hid (⟨thru K9.out.1 k5.1, K9.out.2.1.below (by simp) k5.1, K9.out.2.2.1.below (by simp) k5.1, K9.out.2.2.2.below K9.out.2.2.2.lt k5.1, p15, p16⟩ : Below w2.heap.size w2 w5 ∧ Lies w5 b11 (rlrow ⟨⟨y, ms, false, spn⟩, l, r, false⟩ A n c) ∧ Lies w5 b12 (lprow ⟨y, P, Q, false, spn⟩ D true) ∧ At w5 b14 b ∧ Lies w5 b15 (lprow ⟨y, P, Q, false, spn⟩ D false) ∧ Lies w5 b16 (lprow ⟨y, P, Q, false, spn⟩ D false))
        clear p15 p16 k5 hbox hput hap HZ K9
        obtain ⟨-, x1, -⟩ := E5.out.2.2.2.1
        obtain ⟨hn1, hn4⟩ := HN1.out
        have HZ := Lib.hid (fun w' (j : Below w5.heap.size w5 w') => (⟨E5.out.2.1.below (by simp) j, E5.out.2.2.1.below (by simp) j, E5.out.2.2.2.2.1.below (by simp) j, E5.out.2.2.2.2.2.below (by simp) j, HTS.out w' (thru E5.out.1 j)⟩ : Lies w' b11 (rlrow ⟨⟨y, ms, false, spn⟩, l, r, false⟩ A n c) ∧ Lies w' b12 (lprow ⟨y, P, Q, false, spn⟩ D true) ∧ Lies w' b15 (lprow ⟨y, P, Q, false, spn⟩ D false) ∧ Lies w' b16 (lprow ⟨y, P, Q, false, spn⟩ D false) ∧ T w' tp bs ∧ S w' F p fs ∧ Below w.heap.size w w'))
        go_upto_region 12 with fail
        clear x1 hn1 hn4
        refine HoldAll.wp_region_hold_all [.val (.agg #[.int .i64 y, .int .i64 P, .int .i64 Q, .bool false, .bool spn, .int .i64 D, .bool false]), .val (.agg #[.int .i64 y, .slice A n c, .bool false, .bool spn, .bool l, .bool r, .bool false]), .val (.agg #[.int .i64 y, .int .i64 P, .int .i64 Q, .bool false, .bool spn, .int .i64 D, .bool false]), .val (.bool false), .val (.bool false), .val (.agg #[.int .i64 y, .int .i64 P, .int .i64 Q, .bool false, .bool spn, .int .i64 D, .bool false]), .val (.agg #[.int .i64 y, .slice A n c, .bool false, .bool spn, .bool l, .bool r, .bool false]), .val (.agg #[.int .i64 y, .int .i64 P, .int .i64 Q, .bool false, .bool spn, .int .i64 D, .bool false]), .val (.bool false), .val (.bool false)] (by kernel_rfl) (by kernel_rfl) (by kernel_rfl) ?_ ?_
        · simp only [Hold.fill, Hold.Leave.value]
          refine ⟨?_, ?_, ?_, ?_, ?_, ?_, ?_, ?_, ?_, ?_, trivial⟩
          · intro gg w' hw hk
            have q0 : w'.cell? ⟨b15, 0, none⟩ = some (.int .i64 y) := ((HZ.out w' hw).2.2.1).at' 0
            have q1 : w'.cell? ⟨b15, 1, none⟩ = some (.int .i64 P) := ((HZ.out w' hw).2.2.1).at' 1
            have q2 : w'.cell? ⟨b15, 2, none⟩ = some (.int .i64 Q) := ((HZ.out w' hw).2.2.1).at' 2
            have q3 : w'.cell? ⟨b15, 3, none⟩ = some (.bool false) := ((HZ.out w' hw).2.2.1).at' 3
            have q4 : w'.cell? ⟨b15, 4, none⟩ = some (.bool spn) := ((HZ.out w' hw).2.2.1).at' 4
            have q5 : w'.cell? ⟨b15, 5, none⟩ = some (.int .i64 D) := ((HZ.out w' hw).2.2.1).at' 5
            have q6 : w'.cell? ⟨b15, 6, none⟩ = some (.bool false) := ((HZ.out w' hw).2.2.1).at' 6
            go_simp
            exact ⟨rfl, rfl⟩
          · intro gg w' hw hk
            have q0 : w'.cell? ⟨b11, 0, none⟩ = some (.int .i64 y) := ((HZ.out w' hw).1).at' 0
            have q1 : w'.cell? ⟨b11, 1, none⟩ = some (.slice A n c) := ((HZ.out w' hw).1).at' 1
            have q2 : w'.cell? ⟨b11, 2, none⟩ = some (.bool false) := ((HZ.out w' hw).1).at' 2
            have q3 : w'.cell? ⟨b11, 3, none⟩ = some (.bool spn) := ((HZ.out w' hw).1).at' 3
            have q4 : w'.cell? ⟨b11, 4, none⟩ = some (.bool l) := ((HZ.out w' hw).1).at' 4
            have q5 : w'.cell? ⟨b11, 5, none⟩ = some (.bool r) := ((HZ.out w' hw).1).at' 5
            have q6 : w'.cell? ⟨b11, 6, none⟩ = some (.bool false) := ((HZ.out w' hw).1).at' 6
            go_simp
            exact ⟨rfl, rfl⟩
          · intro gg w' hw hk
            go_simp
            exact Hold.stays_call (HTo.out w' (HZ.out w' hw).2.2.2.2.2.2)
          · intro gg w' hw hk
            go_simp
            exact ⟨rfl, rfl⟩
          · intro gg w' hw hk
            go_simp
            exact ⟨rfl, rfl⟩
          · intro gg w' hw hk
            have q0 : w'.cell? ⟨b16, 0, none⟩ = some (.int .i64 y) := ((HZ.out w' hw).2.2.2.1).at' 0
            have q1 : w'.cell? ⟨b16, 1, none⟩ = some (.int .i64 P) := ((HZ.out w' hw).2.2.2.1).at' 1
            have q2 : w'.cell? ⟨b16, 2, none⟩ = some (.int .i64 Q) := ((HZ.out w' hw).2.2.2.1).at' 2
            have q3 : w'.cell? ⟨b16, 3, none⟩ = some (.bool false) := ((HZ.out w' hw).2.2.2.1).at' 3
            have q4 : w'.cell? ⟨b16, 4, none⟩ = some (.bool spn) := ((HZ.out w' hw).2.2.2.1).at' 4
            have q5 : w'.cell? ⟨b16, 5, none⟩ = some (.int .i64 D) := ((HZ.out w' hw).2.2.2.1).at' 5
            have q6 : w'.cell? ⟨b16, 6, none⟩ = some (.bool false) := ((HZ.out w' hw).2.2.2.1).at' 6
            go_simp
            exact ⟨rfl, rfl⟩
          · intro gg w' hw hk
            have q0 : w'.cell? ⟨b11, 0, none⟩ = some (.int .i64 y) := ((HZ.out w' hw).1).at' 0
            have q1 : w'.cell? ⟨b11, 1, none⟩ = some (.slice A n c) := ((HZ.out w' hw).1).at' 1
            have q2 : w'.cell? ⟨b11, 2, none⟩ = some (.bool false) := ((HZ.out w' hw).1).at' 2
            have q3 : w'.cell? ⟨b11, 3, none⟩ = some (.bool spn) := ((HZ.out w' hw).1).at' 3
            have q4 : w'.cell? ⟨b11, 4, none⟩ = some (.bool l) := ((HZ.out w' hw).1).at' 4
            have q5 : w'.cell? ⟨b11, 5, none⟩ = some (.bool r) := ((HZ.out w' hw).1).at' 5
            have q6 : w'.cell? ⟨b11, 6, none⟩ = some (.bool false) := ((HZ.out w' hw).1).at' 6
            go_simp
            exact ⟨rfl, rfl⟩
          · intro gg w' hw hk
            go_simp
            exact Hold.stays_call (HTo.out w' (HZ.out w' hw).2.2.2.2.2.2)
          · intro gg w' hw hk
            go_simp
            exact ⟨rfl, rfl⟩
          · intro gg w' hw hk
            go_simp
            exact ⟨rfl, rfl⟩
        intro gg w7 k7 hgg
        clear hgg
        simp only [Hold.fill, Hold.Leave.value]
        have K7 := Lib.hid (⟨thru E5.out.1 k7, (HZ.out w7 k7).1, (HZ.out w7 k7).2.1⟩ : Below w2.heap.size w2 w7 ∧ Lies w7 b11 (rlrow ⟨⟨y, ms, false, spn⟩, l, r, false⟩ A n c) ∧ Lies w7 b12 (lprow ⟨y, P, Q, false, spn⟩ D true))
        clear k7 HZ E5 HCi HCp
        go_simp
        go_wp2_with fail
        go_roundw
        case rel => exact ⟨k + 1, by omega, by go_num, K7⟩
        case measure => simp [intOf]; omega
    · obtain rfl : k = nL := by omega
      have HNf := Lib.hid (show fs.length = nF from HN.out.2.2.1.symm)
      obtain ⟨wo, hwo⟩ : ∃ x, x = wr := ⟨_, rfl⟩
      subst hwo
      by_cases hot : ot < 0 ∨ (k : Int) ≤ ot
      · have hha : asks bs ot = false := by unfold asks; rw [show decide (hasT bs ot) = false from decide_eq_false (fun q => by have q1 := q.1; have q2 := q.2; have := HN.out.1; omega)]; rfl
        have hti : intoT bs fs ot ⟨⟨y, ms, false, spn⟩, l, r, false⟩ = ⟨⟨y, ms, false, spn⟩, l, r, false⟩ := by unfold intoT; rw [hha]; rfl
        have htp : pastT bs fs ot ⟨⟨y, ms, false, spn⟩, l, r, false⟩ = ⟨⟨y, ms, false, spn⟩, l, r, false⟩ := by unfold pastT; rw [hha]; rfl
        have HCi := Lib.hid (fun w' (q : T w' tp bs ∧ S w' F p fs ∧ Below w.heap.size w w') => by
          have z := HIn.out ot tp F p w' q.1 q.2.1
          rw [hti, HPv.out] at z
          exact z)
        have HCp := Lib.hid (fun w' (q : T w' tp bs ∧ S w' F p fs ∧ Below w.heap.size w w') => by
          have z := HPa.out ot tp F p w' q.1 q.2.1
          rw [htp, HPv.out] at z
          exact z)
        have HZ := Lib.hid (fun w' (j : Below wo.heap.size wo w') => (⟨H.out.2.1.below (by simp) j, HTS.out w' (thru H.out.1 j)⟩ : Lies w' b11 (rlrow ⟨⟨y, ms, false, spn⟩, l, r, false⟩ A n c) ∧ T w' tp bs ∧ S w' F p fs ∧ Below w.heap.size w w'))
        clear hha hti htp
        go_upto_region 17 with fail
        go_cut [121] (fun tt wx => tt = .bool true ∧ wx = wo)
        case first =>
          by_cases h1 : ot < 0
          · clear hot
            go_wp2_with fail
            go_meet
            exact ⟨rfl, rfl⟩
          · have h2 : (k : Int) ≤ ot := by omega
            clear hot
            go_wp2_with fail
            go_meet
            exact ⟨rfl, rfl⟩
        case rest =>
        obtain ⟨rfl, rfl⟩ := hcut
        clear hot
        go_upto_region 18 with fail
        refine Hold.wp_region_hold [.val (.pointer (some tp)), .val (.pointer (some p)), .val (.int .i64 ot), .val (.agg #[.int .i64 y, .slice A n c, .bool false, .bool spn, .bool l, .bool r, .bool false]), .val (.agg #[.int .i64 y, .int .i64 P, .int .i64 Q, .bool false, .bool spn, .int .i64 D, .bool false]), .val (.agg #[.int .i64 y, .int .i64 P, .int .i64 Q, .bool false, .bool spn, .int .i64 D, .bool false]), .val (.agg #[.int .i64 y, .slice A n c, .bool false, .bool spn, .bool l, .bool r, .bool false]), .val (.agg #[.int .i64 y, .int .i64 P, .int .i64 Q, .bool false, .bool spn, .int .i64 D, .bool false]), .val (.bool true), .val (.bool true), .val (.pointer (some tp)), .val (.pointer (some p)), .val (.int .i64 ot), .val (.agg #[.int .i64 y, .slice A n c, .bool false, .bool spn, .bool l, .bool r, .bool false]), .val (.agg #[.int .i64 y, .int .i64 P, .int .i64 Q, .bool false, .bool spn, .int .i64 D, .bool false]), .val (.agg #[.int .i64 y, .int .i64 P, .int .i64 Q, .bool false, .bool spn, .int .i64 D, .bool false]), .val (.agg #[.int .i64 y, .slice A n c, .bool false, .bool spn, .bool l, .bool r, .bool false]), .val (.agg #[.int .i64 y, .int .i64 P, .int .i64 Q, .bool false, .bool spn, .int .i64 D, .bool false]), .val (.bool true), .val (.bool true)] (by kernel_rfl) (by kernel_rfl) (by kernel_rfl) ?_ ?_
        · simp only [Hold.fill, Hold.Leave.value]
          refine ⟨?_, ?_, ?_, ?_, ?_, ?_, ?_, ?_, ?_, ?_, ?_, ?_, ?_, ?_, ?_, ?_, ?_, ?_, ?_, ?_, trivial⟩
          · intro gg w' hw hk
            go_simp
            exact ⟨rfl, rfl⟩
          · intro gg w' hw hk
            go_simp
            exact ⟨rfl, rfl⟩
          · intro gg w' hw hk
            go_simp
            exact ⟨rfl, rfl⟩
          · intro gg w' hw hk
            have q0 : w'.cell? ⟨b11, 0, none⟩ = some (.int .i64 y) := ((HZ.out w' hw).1).at' 0
            have q1 : w'.cell? ⟨b11, 1, none⟩ = some (.slice A n c) := ((HZ.out w' hw).1).at' 1
            have q2 : w'.cell? ⟨b11, 2, none⟩ = some (.bool false) := ((HZ.out w' hw).1).at' 2
            have q3 : w'.cell? ⟨b11, 3, none⟩ = some (.bool spn) := ((HZ.out w' hw).1).at' 3
            have q4 : w'.cell? ⟨b11, 4, none⟩ = some (.bool l) := ((HZ.out w' hw).1).at' 4
            have q5 : w'.cell? ⟨b11, 5, none⟩ = some (.bool r) := ((HZ.out w' hw).1).at' 5
            have q6 : w'.cell? ⟨b11, 6, none⟩ = some (.bool false) := ((HZ.out w' hw).1).at' 6
            go_simp
            exact ⟨rfl, rfl⟩
          · intro gg w' hw hk
            go_simp
            exact Hold.stays_call (HTo.out w' (HZ.out w' hw).2.2.2)
          · intro gg w' hw hk
            go_simp
            exact Hold.stays_call (HCi.out w' (HZ.out w' hw).2)
          · intro gg w' hw hk
            have q0 : w'.cell? ⟨b11, 0, none⟩ = some (.int .i64 y) := ((HZ.out w' hw).1).at' 0
            have q1 : w'.cell? ⟨b11, 1, none⟩ = some (.slice A n c) := ((HZ.out w' hw).1).at' 1
            have q2 : w'.cell? ⟨b11, 2, none⟩ = some (.bool false) := ((HZ.out w' hw).1).at' 2
            have q3 : w'.cell? ⟨b11, 3, none⟩ = some (.bool spn) := ((HZ.out w' hw).1).at' 3
            have q4 : w'.cell? ⟨b11, 4, none⟩ = some (.bool l) := ((HZ.out w' hw).1).at' 4
            have q5 : w'.cell? ⟨b11, 5, none⟩ = some (.bool r) := ((HZ.out w' hw).1).at' 5
            have q6 : w'.cell? ⟨b11, 6, none⟩ = some (.bool false) := ((HZ.out w' hw).1).at' 6
            go_simp
            exact ⟨rfl, rfl⟩
          · intro gg w' hw hk
            go_simp
            exact Hold.stays_call (HTo.out w' (HZ.out w' hw).2.2.2)
          · intro gg w' hw hk
            go_simp
            exact ⟨rfl, rfl⟩
          · intro gg w' hw hk
            go_simp
            exact ⟨rfl, rfl⟩
          · intro gg w' hw hk
            go_simp
            exact ⟨rfl, rfl⟩
          · intro gg w' hw hk
            go_simp
            exact ⟨rfl, rfl⟩
          · intro gg w' hw hk
            go_simp
            exact ⟨rfl, rfl⟩
          · intro gg w' hw hk
            have q0 : w'.cell? ⟨b11, 0, none⟩ = some (.int .i64 y) := ((HZ.out w' hw).1).at' 0
            have q1 : w'.cell? ⟨b11, 1, none⟩ = some (.slice A n c) := ((HZ.out w' hw).1).at' 1
            have q2 : w'.cell? ⟨b11, 2, none⟩ = some (.bool false) := ((HZ.out w' hw).1).at' 2
            have q3 : w'.cell? ⟨b11, 3, none⟩ = some (.bool spn) := ((HZ.out w' hw).1).at' 3
            have q4 : w'.cell? ⟨b11, 4, none⟩ = some (.bool l) := ((HZ.out w' hw).1).at' 4
            have q5 : w'.cell? ⟨b11, 5, none⟩ = some (.bool r) := ((HZ.out w' hw).1).at' 5
            have q6 : w'.cell? ⟨b11, 6, none⟩ = some (.bool false) := ((HZ.out w' hw).1).at' 6
            go_simp
            exact ⟨rfl, rfl⟩
          · intro gg w' hw hk
            go_simp
            exact Hold.stays_call (HTo.out w' (HZ.out w' hw).2.2.2)
          · intro gg w' hw hk
            go_simp
            exact Hold.stays_call (HCp.out w' (HZ.out w' hw).2)
          · intro gg w' hw hk
            have q0 : w'.cell? ⟨b11, 0, none⟩ = some (.int .i64 y) := ((HZ.out w' hw).1).at' 0
            have q1 : w'.cell? ⟨b11, 1, none⟩ = some (.slice A n c) := ((HZ.out w' hw).1).at' 1
            have q2 : w'.cell? ⟨b11, 2, none⟩ = some (.bool false) := ((HZ.out w' hw).1).at' 2
            have q3 : w'.cell? ⟨b11, 3, none⟩ = some (.bool spn) := ((HZ.out w' hw).1).at' 3
            have q4 : w'.cell? ⟨b11, 4, none⟩ = some (.bool l) := ((HZ.out w' hw).1).at' 4
            have q5 : w'.cell? ⟨b11, 5, none⟩ = some (.bool r) := ((HZ.out w' hw).1).at' 5
            have q6 : w'.cell? ⟨b11, 6, none⟩ = some (.bool false) := ((HZ.out w' hw).1).at' 6
            go_simp
            exact ⟨rfl, rfl⟩
          · intro gg w' hw hk
            go_simp
            exact Hold.stays_call (HTo.out w' (HZ.out w' hw).2.2.2)
          · intro gg w' hw hk
            go_simp
            exact ⟨rfl, rfl⟩
          · intro gg w' hw hk
            go_simp
            exact ⟨rfl, rfl⟩
        intro gg w9 k9 hgg
        clear hgg
        simp only [Hold.fill, Hold.Leave.value, List.length_cons, List.length_nil, List.drop_succ_cons, List.drop_zero]
        go_simp
        go_wp2_with fail
        go_ret
        exact ⟨rfl, (HTS.out w9 (thru H.out.1 k9)).2.2⟩
      · have h1 : ¬ ot < 0 := by omega
        have h2 : ¬ (k : Int) ≤ ot := by omega
        clear hot
        go_wp2_with (first
          | (go_at_call 12; refine (HFl.out F p wo (HTS.out wo H.out.1).2.1).mono ?_; rintro e w9 ⟨⟨A9, c9, rfl, -⟩, k9⟩; rw [HNf.out]; have K9 := Lib.hid (HTS.out w9 (thru H.out.1 k9)).2.2; clear k9))
        go_ret
        exact ⟨rfl, K9.out⟩

end

end Go.Proofs.YtfomhdhiibcdfaaGreat.Ahead
