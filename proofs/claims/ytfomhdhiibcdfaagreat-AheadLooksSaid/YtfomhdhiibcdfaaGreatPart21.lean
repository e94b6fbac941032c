/- The document's Past, over its Into; and both. -/
import Derived.Test.YtfomhdhiibcdfaaGreatPart20
namespace Go.Proofs.YtfomhdhiibcdfaaGreat.Ahead
open Go.RowKit Go.Sort Go.Proofs.YtfomhdhiibcdfaaGreat.More Go.Proofs.YtfomhdhiibcdfaaGreat.Record Go.Proofs.YtfomhdhiibcdfaaGreat.Script Go.Proofs.YtfomhdhiibcdfaaGreat.Tree Go.Proofs.YtfomhdhiibcdfaaGreat.Shelf Go.Proofs.YtfomhdhiibcdfaaGreat.Space Go.Proofs.YtfomhdhiibcdfaaGreat.Spot
set_option linter.unusedVariables false
set_option linter.unusedSimpArgs false

/-- How all lies in Past. -/
structure PaSt (w wx : World) (b7 : Nat) (b : Bx) (k : Rl) (A : Option Addr) (n c : Nat) : Prop where
  low : Below w.heap.size w wx
  look : Lies wx b7 (rlrow k A n c)
  out : Lies wx (b7 + 1) (rlrow zeroRl none 0 0)
  box : At wx (b7 + 2) b

theorem PaSt.below {w wx wy : World} {b7 : Nat} {b : Bx} {k : Rl} {A : Option Addr} {n c : Nat} (h : PaSt w wx b7 b k A n c) (j : Below wx.heap.size wx wy) : PaSt w wy b7 b k A n c :=
  ⟨thru h.low j, h.look.below (by simp) j, h.out.below (by simp) j, h.box.below h.box.lt j⟩
/-- What is written anew is the look, or lies behind. -/
theorem PaSt.onto {w wx wy : World} {b7 g : Nat} {b : Bx} {k : Rl} {A : Option Addr} {n c : Nat} (h : PaSt w wx b7 b k A n c) (hb : w.heap.size ≤ b7) (sv : Save (fun j => j = g) wx wy) (hg : b7 + 3 ≤ g) : PaSt w wy b7 b k A n c :=
  ⟨h.low.trans (sv.blw (by omega) h.low.size), h.look.save (by simp) sv (show ¬ b7 = g by omega), h.out.save (by simp) sv (show ¬ b7 + 1 = g by omega), by
    have e : ∀ o, wy.cell? ⟨b7 + 2, o, none⟩ = wx.cell? ⟨b7 + 2, o, none⟩ := fun o => World.cell?_of_block (a := ⟨b7 + 2, o, none⟩) (sv.block _ h.box.lt (show ¬ b7 + 2 = g by omega))
    have hx := h.box
    unfold At at *
    simp only [e]
    exact hx⟩
theorem PaSt.cells {w wx : World} {b7 : Nat} {b : Bx} {k : Rl} {A : Option Addr} {n c : Nat} (h : PaSt w wx b7 b k A n c) : LkAt wx b7 k A n c ∧ LkFr wx b7 ∧ LkAt wx (b7 + 1) zeroRl none 0 0 ∧ LkFr wx (b7 + 1) :=
  ⟨lkat_of h.look, lkfr_of h.look, lkat_of h.out, lkfr_of h.out⟩

set_option maxRecDepth 100000 in
set_option maxHeartbeats 4000000 in
theorem hrpast_next (bs : List Bx) (fs : List Fl) (f : Nat) (hW : Wood bs) (hP : RefPast bs fs f) (i : Nat) (k : Rl) (A : Option Addr) (n c : Nat) (ad0 : Addr) (cL : Nat) (AF : Option Addr) (cF : Nat) (t : Nat) (w : World) (hfl : fs.length ≤ 1000)
    (hi : i < bs.length) (hf : bs.length - i ≤ f + 1) (hke : k.e = false) (hs : Slim t k) (ht : t + 2 * (bs.length - i) ≤ 900) (hh : Held w A n c k.x.ms) (hL : Boxes w w.heap.size (some ad0) bs) (hF : Floats w w.heap.size AF fs) :
    Calls Tryz.prog 11 #[.slice (some ad0) bs.length cL, .slice AF fs.length cF, .int .i64 (i : Int), rlv k A n c] w (GivesP w A n c k.x.ms (pastF bs fs (f + 1) i k)) := by
  obtain ⟨m, hm⟩ : ∃ m, bs.length = m := ⟨_, rfl⟩
  have hii : (i : Int) < (m : Int) := by omega
  have hi0 : ¬ (i : Int) < 0 := by omega
  obtain ⟨b, hb⟩ : ∃ b, bs.getD i noB = b := ⟨_, rfl⟩
  have hmarg := hW.marg i hi
  have hclr := hW.clr i hi
  rw [hb] at hmarg hclr
  have hin := fun w' (j : Below w.heap.size w w') => hrinto_any bs fs f hW hP i k A n c ad0 cL AF cF t w' hi hf hke hs ht (hh.below j) (hL.thru j) (hF.thru j)
  have hbo := fun w' (j : Below w.heap.size w w') => refbottom_any AF fs.length cF fs b.c w' rfl (by omega) (hF.thru j)
  obtain ⟨nx, hnx⟩ : ∃ nx, intoF bs fs f i k = nx := ⟨_, rfl⟩
  have hless := intoF_less (fs := fs) hW.marg f i hi hf k
  rw [hnx] at hin hless
  rw [hm] at hin
  have hsn := hs.less hless (Nat.le_refl _)
  have hen := (en_spec (dOf bs) bs.length i hi).2.1
  have hfine : FineR nx.x := hsn.fine (by omega)
  obtain ⟨bo, hbo2⟩ : ∃ bo, (botS fs b.c).1 = bo := ⟨_, rfl⟩
  obtain ⟨ok, hok⟩ : ∃ ok, (botS fs b.c).2 = ok := ⟨_, rfl⟩
  rw [hbo2, hok] at hbo
  obtain ⟨G, hG⟩ : ∃ G, pastF bs fs (f + 1) i k = G := ⟨_, rfl⟩
  have hGv : G = (if clrL b.c k.l k.r = true then { k with e := true } else if ok = true ∧ atS nx.x.sp < bo then { k with e := true } else if nx.e = true then nx else { nx with x := withR nx.x b.m2 }) := by rw [← hG, ← hb, ← hnx, ← hbo2, ← hok, ← hb]; rfl
  rw [hG, hm]
  have HGv := Lib.hid hGv
  have HIn := Lib.hid hin
  have HBo := Lib.hid hbo
  have HL := Lib.hid hL
  have HH := Lib.hid hh
  have HFi := Lib.hid (⟨hfine, hclr⟩ : FineR nx.x ∧ 0 ≤ b.c ∧ b.c ≤ 3)
  obtain ⟨ad1, hA1, hadB, hat⟩ := hL i hi
  obtain rfl : ad0 = ad1 := by injection hA1
  rw [hb] at hat
  have HAt := Lib.hid (⟨hadB, hat⟩ : ad0.block < w.heap.size ∧ AtP w (ad0.add (i * 14)) b)
  obtain ⟨⟨y, ms, hd, sp⟩, l, r, e⟩ := k
  dsimp only at hke
  subst hke
  clear hL hF hh hs ht hP hW hin hbo hGv hG hm hi hf hA1 hadB hat hb hmarg hclr hless hsn hen hfine hbo2 hok hnx hfl
  go_enter Tryz.func11, Tryz.ntmps11
  go_upto_region 1 with fail
  generalize hW1 : World.alloc (World.alloc _ _) _ = W
  have L3 := two_news w 35 35 (rlrow ⟨⟨y, ms, hd, sp⟩, l, r, false⟩ A n c) (rlrow zeroRl none 0 0) (by simp)
  replace L3 := (show Lies W w.heap.size (rlrow ⟨⟨y, ms, hd, sp⟩, l, r, false⟩ A n c) ∧ Lies W (w.heap.size + 1) (rlrow zeroRl none 0 0) ∧ Below w.heap.size w W ∧ W.heap.size = w.heap.size + 2 by rw [← hW1]; exact ⟨L3.1, L3.2.1, L3.2.2, by simp⟩)
  obtain ⟨b7, hb7⟩ : ∃ b7, w.heap.size = b7 := ⟨_, rfl⟩
  have HB := Lib.hid (Nat.le_of_eq hb7)
  have K3 := Lib.hid (⟨L3.2.2.1, by rw [← hb7]; exact L3.1, by rw [← hb7]; exact L3.2.1, by rw [← hb7]; exact L3.2.2.2⟩ : Below w.heap.size w W ∧ Lies W b7 (rlrow ⟨⟨y, ms, hd, sp⟩, l, r, false⟩ A n c) ∧ Lies W (b7 + 1) (rlrow zeroRl none 0 0) ∧ W.heap.size = b7 + 2)
  rw [hb7]
  clear hW1 L3 hb7
  obtain ⟨d0, d1, d2, d3, d4, d5, d6, d7, d8, d9, d10, d11, d12, d13⟩ := HAt.out.2.below (B := w.heap.size) (by rw [block_of_add]; exact HAt.out.1) K3.out.1
  go_upto_region 2 with fail
  clear d0 d1 d2 d3 d4 d5 d6 d7 d8 d9 d10 d11 d12 d13
  generalize hW2 : World.alloc W _ = V
  have z9 : At V (b7 + 2) b := by rw [← hW2, ← K3.out.2.2.2]; exact At.of_block (heap_alloc_new W _)
  have k2 : Below W.heap.size W V := by rw [← hW2]; exact ba1 _ _
  rw [K3.out.2.2.2]
  have HV := Lib.hid (⟨thru K3.out.1 k2, K3.out.2.1.below (by simp) k2, K3.out.2.2.1.below (by simp) k2, z9⟩ : PaSt w V b7 b ⟨⟨y, ms, hd, sp⟩, l, r, false⟩ A n c)
  clear hW2 k2 z9 K3
  obtain ⟨v, hv⟩ : ∃ v, clrL b.c l r = v := ⟨_, rfl⟩
  have HVv := Lib.hid hv
  clear hv
  obtain ⟨c0, c1, c2, c3, c4, c5, c6⟩ := HV.out.cells.1
  obtain ⟨-, -, -, x3, -⟩ := HV.out.box
  cases v with
  | true =>
    have hgt : G = ⟨⟨y, ms, hd, sp⟩, l, r, true⟩ := by rw [HGv.out, if_pos HVv.out]
    subst hgt
    go_upto_region 3 with (first
      | (go_at_call 27; refine (hrclears_is HFi.out.2 (k := ⟨⟨y, ms, hd, sp⟩, l, r, false⟩) HVv.out A n c V).mono ?_; rintro e w3 ⟨rfl, k3⟩; have K5 := Lib.hid (HV.out.below k3); clear c0 c1 c2 c3 c4 c5 c6 x3))
    obtain ⟨c0, c1, c2, c3, c4, c5, c6⟩ := K5.out.cells.1
    obtain ⟨f0, f1, f2, f3, f4, f5, f6⟩ := K5.out.cells.2.1
    obtain ⟨o0, o1, o2, o3, o4, o5, o6⟩ := K5.out.cells.2.2.1
    obtain ⟨g0, g1, g2, g3, g4, g5, g6⟩ := K5.out.cells.2.2.2
    go_upto_region 4 with fail
    generalize hU : World.setCell w3 _ _ = U
    have zU : Below w.heap.size w U ∧ Lies U b7 (rlrow ⟨⟨y, ms, hd, sp⟩, l, r, true⟩ A n c) ∧ Lies U (b7 + 1) (rlrow zeroRl none 0 0) := by
      rw [← hU]
      have sv := Save.set (w := w3) b7 6 (.bool true)
      exact ⟨K5.out.low.trans (sv.blw HB.out K5.out.low.size), K5.out.look.set 6 (.bool true) (by simp), K5.out.out.save (by simp) sv (show ¬ b7 + 1 = b7 by omega)⟩
    have HU := Lib.hid zU
    clear zU hU
    clear c0 c1 c2 c3 c4 c5 c6 f0 f1 f2 f3 f4 f5 f6 o0 o1 o2 o3 o4 o5 o6 g0 g1 g2 g3 g4 g5 g6
    obtain ⟨c0, c1, c2, c3, c4, c5, c6⟩ := lkat_of HU.out.2.1
    obtain ⟨o0, o1, o2, o3, o4, o5, o6⟩ := lkat_of HU.out.2.2
    obtain ⟨g0, g1, g2, g3, g4, g5, g6⟩ := lkfr_of HU.out.2.2
    go_wp2_with fail
    refine bodyPost_ret (v := rlv ⟨⟨y, ms, hd, sp⟩, l, r, true⟩ A n c) (by simp [results, Tryz.results11, go_sem, o0, o1, o2, o3, o4, o5, o6]) rfl ?_
    have sv := save_seven U (b7 + 1) (.int .i64 y) (.slice A n c) (.bool hd) (.bool sp) (.bool l) (.bool r) (.bool true)
    exact ⟨⟨A, n, c, rfl, .inl ⟨rfl, rfl, rfl, rfl⟩⟩, HU.out.1.trans (sv.blw (by have := HB.out; omega) HU.out.1.size)⟩
  | false =>
    go_upto_region 5 with (first
      | (go_at_call 27; refine (hrclears_is HFi.out.2 (k := ⟨⟨y, ms, hd, sp⟩, l, r, false⟩) HVv.out A n c V).mono ?_; rintro e w3 ⟨rfl, k3⟩; have K5 := Lib.hid (HV.out.below k3); clear c0 c1 c2 c3 c4 c5 c6 x3; obtain ⟨c0, c1, c2, c3, c4, c5, c6⟩ := K5.out.cells.1))
    obtain ⟨⟨yn, mn, hn', sn⟩, ln, rn, en'⟩ := nx
    go_upto_region 6 with (first
      | (go_at_call 10; refine (HIn.out w3 K5.out.low).mono ?_; rintro e w4 ⟨⟨A4, n4, c4', rfl, hm4⟩, k4⟩; have K6 := Lib.hid (⟨K5.out.below k4, Mine.mono hm4 K5.out.box.lt⟩ : PaSt w w4 b7 b ⟨⟨y, ms, hd, sp⟩, l, r, false⟩ A n c ∧ Mine w4 (b7 + 3) A4 n4 c4' mn); clear k4 hm4 c0 c1 c2 c3 c4 c5 c6))
    generalize hW3 : World.alloc w4 _ = V2
    obtain ⟨b10, hb10⟩ : ∃ b10, w4.heap.size = b10 := ⟨_, rfl⟩
    have k5 : Below w4.heap.size w4 V2 := by rw [← hW3]; exact ba1 _ _
    have z10 : Lies V2 b10 (rlrow ⟨⟨yn, mn, hn', sn⟩, ln, rn, en'⟩ A4 n4 c4') := by rw [← hW3, ← hb10]; exact Lies.new w4 _ _
    rw [hb10]
    have HB10 := Lib.hid (show b7 + 3 ≤ b10 by rw [← hb10]; exact K6.out.1.box.lt)
    have hmb : Mine V2 (b7 + 3) A4 n4 c4' mn ∧ ∀ j, blk A4 = some j → j ≠ b10 := ⟨K6.out.2.below k5, fun j hj => by have := (K6.out.2.lt j hj).2; omega⟩
    have K7 := Lib.hid (⟨K6.out.1.below k5, z10, hmb.1, hmb.2⟩ : PaSt w V2 b7 b ⟨⟨y, ms, hd, sp⟩, l, r, false⟩ A n c ∧ Lies V2 b10 (rlrow ⟨⟨yn, mn, hn', sn⟩, ln, rn, en'⟩ A4 n4 c4') ∧ Mine V2 (b7 + 3) A4 n4 c4' mn ∧ ∀ j, blk A4 = some j → j ≠ b10)
    clear hW3 hb10 k5 z10 hmb K6 K5
    obtain ⟨-, -, -, x3, -⟩ := K7.out.1.box
    go_upto_region 7 with (first
      | (go_at_call 28; refine (HBo.out V2 K7.out.1.low).mono ?_; rintro e w5 ⟨rfl, k5⟩; have K8 := Lib.hid (⟨K7.out.1.below k5, K7.out.2.1.below (by simp) k5, K7.out.2.2.1.below k5, K7.out.2.2.2⟩ : PaSt w w5 b7 b ⟨⟨y, ms, hd, sp⟩, l, r, false⟩ A n c ∧ Lies w5 b10 (rlrow ⟨⟨yn, mn, hn', sn⟩, ln, rn, en'⟩ A4 n4 c4') ∧ Mine w5 (b7 + 3) A4 n4 c4' mn ∧ ∀ j, blk A4 = some j → j ≠ b10); clear k5 x3 K7))
    obtain ⟨a, ha⟩ : ∃ a, atS (Rp.sp ⟨yn, mn, hn', sn⟩) = a := ⟨_, rfl⟩
    obtain ⟨v2, hv2⟩ : ∃ v, (ok && decide (a < bo)) = v := ⟨_, rfl⟩
    have HGw : Hid (G = (if v2 = true then ⟨⟨y, ms, hd, sp⟩, l, r, true⟩ else if en' = true then ⟨⟨yn, mn, hn', sn⟩, ln, rn, en'⟩ else ⟨withR ⟨yn, mn, hn', sn⟩ b.m2, ln, rn, en'⟩)) := Lib.hid (by
      rw [HGv.out, if_neg (by rw [HVv.out]; simp), ← hv2, ← ha]
      simp only [Bool.and_eq_true, decide_eq_true_eq])
    have HAa := Lib.hid ha
    have HV2 := Lib.hid hv2
    clear ha hv2
    go_cut [42] (fun tt wx => tt = .bool v2 ∧ Hid (PaSt w wx b7 b ⟨⟨y, ms, hd, sp⟩, l, r, false⟩ A n c ∧ Lies wx b10 (rlrow ⟨⟨yn, mn, hn', sn⟩, ln, rn, en'⟩ A4 n4 c4') ∧ Mine wx (b7 + 3) A4 n4 c4' mn ∧ ∀ j, blk A4 = some j → j ≠ b10))
    case first =>
      cases ok with
      | false =>
        go_wp2_with fail
        go_meet
        exact ⟨by rw [← HV2.out]; rfl, K8⟩
      | true =>
        obtain ⟨c0, c1, c2, c3, c4, c5, c6⟩ := lkat_of K8.out.2.1
        go_wp2_with (first
          | (go_at_call 29; refine (grat_any ⟨yn, mn, hn', sn⟩ A4 n4 c4' w5 (Mine.held K8.out.2.2.1) HFi.out.1).mono ?_; rintro e w6 ⟨rfl, k6⟩; rw [HAa.out]; have K9 := Lib.hid (⟨K8.out.1.below k6, K8.out.2.1.below (by simp) k6, K8.out.2.2.1.below k6, K8.out.2.2.2⟩ : PaSt w w6 b7 b ⟨⟨y, ms, hd, sp⟩, l, r, false⟩ A n c ∧ Lies w6 b10 (rlrow ⟨⟨yn, mn, hn', sn⟩, ln, rn, en'⟩ A4 n4 c4') ∧ Mine w6 (b7 + 3) A4 n4 c4' mn ∧ ∀ j, blk A4 = some j → j ≠ b10); clear k6 c0 c1 c2 c3 c4 c5 c6))
        go_meet
        exact ⟨by rw [← HV2.out]; rfl, K9⟩
    case rest =>
    obtain ⟨rfl, KC⟩ := hcut
    clear K8 HAa HV2 HGv HVv HBo HIn
    cases v2 with
    | true =>
      have hgt : G = ⟨⟨y, ms, hd, sp⟩, l, r, true⟩ := by rw [HGw.out]; rfl
      subst hgt
      obtain ⟨c0, c1, c2, c3, c4, c5, c6⟩ := KC.out.1.cells.1
      obtain ⟨f0, f1, f2, f3, f4, f5, f6⟩ := KC.out.1.cells.2.1
      obtain ⟨o0, o1, o2, o3, o4, o5, o6⟩ := KC.out.1.cells.2.2.1
      obtain ⟨g0, g1, g2, g3, g4, g5, g6⟩ := KC.out.1.cells.2.2.2
      go_upto_region 9 with fail
      generalize hU : World.setCell wc _ _ = U
      have zU : Below w.heap.size w U ∧ Lies U b7 (rlrow ⟨⟨y, ms, hd, sp⟩, l, r, true⟩ A n c) ∧ Lies U (b7 + 1) (rlrow zeroRl none 0 0) := by
        rw [← hU]
        have sv := Save.set (w := wc) b7 6 (.bool true)
        exact ⟨KC.out.1.low.trans (sv.blw HB.out KC.out.1.low.size), KC.out.1.look.set 6 (.bool true) (by simp), KC.out.1.out.save (by simp) sv (show ¬ b7 + 1 = b7 by omega)⟩
      have HU := Lib.hid zU
      clear zU hU
      clear c0 c1 c2 c3 c4 c5 c6 f0 f1 f2 f3 f4 f5 f6 o0 o1 o2 o3 o4 o5 o6 g0 g1 g2 g3 g4 g5 g6
      obtain ⟨c0, c1, c2, c3, c4, c5, c6⟩ := lkat_of HU.out.2.1
      obtain ⟨o0, o1, o2, o3, o4, o5, o6⟩ := lkat_of HU.out.2.2
      obtain ⟨g0, g1, g2, g3, g4, g5, g6⟩ := lkfr_of HU.out.2.2
      go_wp2_with fail
      refine bodyPost_ret (v := rlv ⟨⟨y, ms, hd, sp⟩, l, r, true⟩ A n c) (by simp [results, Tryz.results11, go_sem, o0, o1, o2, o3, o4, o5, o6]) rfl ?_
      have sv := save_seven U (b7 + 1) (.int .i64 y) (.slice A n c) (.bool hd) (.bool sp) (.bool l) (.bool r) (.bool true)
      exact ⟨⟨A, n, c, rfl, .inl ⟨rfl, rfl, rfl, rfl⟩⟩, HU.out.1.trans (sv.blw (by have := HB.out; omega) HU.out.1.size)⟩
    | false =>
      obtain ⟨e0, e1, e2, e3, e4, e5, e6⟩ := lkat_of KC.out.2.1
      cases en' with
      | true =>
        have hgt : G = ⟨⟨yn, mn, hn', sn⟩, ln, rn, true⟩ := by rw [HGw.out]; rfl
        subst hgt
        obtain ⟨o0, o1, o2, o3, o4, o5, o6⟩ := KC.out.1.cells.2.2.1
        obtain ⟨g0, g1, g2, g3, g4, g5, g6⟩ := KC.out.1.cells.2.2.2
        go_wp2_with fail
        refine bodyPost_ret (v := rlv ⟨⟨yn, mn, hn', sn⟩, ln, rn, true⟩ A4 n4 c4') (by simp [results, Tryz.results11, go_sem, o0, o1, o2, o3, o4, o5, o6]) rfl ?_
        have sv := save_seven wc (b7 + 1) (.int .i64 yn) (.slice A4 n4 c4') (.bool hn') (.bool sn) (.bool ln) (.bool rn) (.bool true)
        exact ⟨⟨A4, n4, c4', rfl, .inr (Mine.mono (mine_save KC.out.2.2.1 sv fun j hj e => by have := (KC.out.2.2.1.lt j hj).1; omega) (by have := HB.out; omega))⟩, KC.out.1.low.trans (sv.blw (by have := HB.out; omega) KC.out.1.low.size)⟩
      | false =>
        have hgt : G = ⟨withR ⟨yn, mn, hn', sn⟩ b.m2, ln, rn, false⟩ := by rw [HGw.out]; rfl
        subst hgt
        obtain ⟨-, -, -, -, -, -, -, -, x8, -⟩ := KC.out.1.box
        have hl9 : mn.length ≤ 1000 := HFi.out.1.2.2
        have HL9 := Lib.hid hl9
        clear hl9
        go_upto_region 12 with (first
          | (go_at_call 25; refine (grwith_any ⟨yn, mn, hn', sn⟩ A4 n4 c4' b.m2 wc (Mine.held KC.out.2.2.1) HL9.out).mono ?_; rintro e w6 ⟨⟨A6, n6, c6', rfl, hm6⟩, k6⟩; have K9 := Lib.hid (⟨KC.out.1.below k6, KC.out.2.1.below (by simp) k6, Mine.mono hm6 (Nat.le_of_lt (Nat.lt_of_le_of_lt HB10.out (KC.out.2.1.lt (by simp)))), fun j hj => by have := (hm6.lt j hj).1; have := KC.out.2.1.lt (by simp); omega⟩ : PaSt w w6 b7 b ⟨⟨y, ms, hd, sp⟩, l, r, false⟩ A n c ∧ Lies w6 b10 (rlrow ⟨⟨yn, mn, hn', sn⟩, ln, rn, false⟩ A4 n4 c4') ∧ Mine w6 (b7 + 3) A6 n6 c6' (mn ++ [b.m2]) ∧ ∀ j, blk A6 = some j → j ≠ b10); clear hm6 k6 e0 e1 e2 e3 e4 e5 e6 x8; obtain ⟨e0, e1, e2, e3, e4, e5, e6⟩ := lkat_of K9.out.2.1; obtain ⟨f0, f1, f2, f3, f4, f5, f6⟩ := lkfr_of K9.out.2.1))
        generalize hU : World.setCell (World.setCell (World.setCell (World.setCell w6 _ _) _ _) _ _) _ _ = U
        have zU : PaSt w U b7 b ⟨⟨y, ms, hd, sp⟩, l, r, false⟩ A n c ∧ Lies U b10 (rlrow ⟨⟨yn, mn ++ [b.m2], hn', sn⟩, ln, rn, false⟩ A6 n6 c6') ∧ Mine U (b7 + 3) A6 n6 c6' (mn ++ [b.m2]) := by
          rw [← hU]
          have sv := Save.four w6 b10 (.int .i64 yn) (.slice A6 n6 c6') (.bool hn') (.bool sn)
          exact ⟨K9.out.1.onto HB.out sv HB10.out, (((K9.out.2.1.set 0 (.int .i64 yn) (by simp)).set 1 (.slice A6 n6 c6') (by simp)).set 2 (.bool hn') (by simp)).set 3 (.bool sn) (by simp), mine_save K9.out.2.2.1 sv fun j hj e => K9.out.2.2.2 j hj e⟩
        have HU := Lib.hid zU
        clear zU hU K9 e0 e1 e2 e3 e4 e5 e6 f0 f1 f2 f3 f4 f5 f6
        obtain ⟨e0, e1, e2, e3, e4, e5, e6⟩ := lkat_of HU.out.2.1
        obtain ⟨o0, o1, o2, o3, o4, o5, o6⟩ := HU.out.1.cells.2.2.1
        obtain ⟨g0, g1, g2, g3, g4, g5, g6⟩ := HU.out.1.cells.2.2.2
        go_wp2_with fail
        refine bodyPost_ret (v := rlv ⟨⟨yn, mn ++ [b.m2], hn', sn⟩, ln, rn, false⟩ A6 n6 c6') (by simp [results, Tryz.results11, go_sem, o0, o1, o2, o3, o4, o5, o6]) rfl ?_
        have sv := save_seven U (b7 + 1) (.int .i64 yn) (.slice A6 n6 c6') (.bool hn') (.bool sn) (.bool ln) (.bool rn) (.bool false)
        exact ⟨⟨A6, n6, c6', rfl, .inr (Mine.mono (mine_save HU.out.2.2 sv fun j hj e => by have := (HU.out.2.2.lt j hj).1; omega) (by have := HB.out; omega))⟩, HU.out.1.low.trans (sv.blw (by have := HB.out; omega) HU.out.1.low.size)⟩

theorem refpast_all (bs : List Bx) (fs : List Fl) (hW : Wood bs) (hfl : fs.length ≤ 1000) : ∀ f, RefPast bs fs f
  | 0 => fun i k A n c AL cL AF cF t w hi hf => absurd hf (by omega)
  | f + 1 => fun i k A n c AL cL AF cF t w hi hf hke hs ht hh hL hF => by
    obtain ⟨ad0, hA, -⟩ := hL i hi
    subst hA
    exact hrpast_next bs fs f hW (refpast_all bs fs hW hfl f) i k A n c ad0 cL AF cF t w hfl hi hf hke hs ht hh hL hF

end Go.Proofs.YtfomhdhiibcdfaaGreat.Ahead
