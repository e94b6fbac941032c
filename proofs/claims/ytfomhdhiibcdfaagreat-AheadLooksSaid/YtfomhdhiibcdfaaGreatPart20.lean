/- The document's Into, over a contract of its Past. -/
import Derived.Test.YtfomhdhiibcdfaaGreatPart18
import Derived.Test.YtfomhdhiibcdfaaGreatPart19
import Derived.Deep.CutBlock
namespace Go.Proofs.YtfomhdhiibcdfaaGreat.Ahead
open Go.RowKit Go.Sort Go.Proofs.YtfomhdhiibcdfaaGreat.More Go.Proofs.YtfomhdhiibcdfaaGreat.Record Go.Proofs.YtfomhdhiibcdfaaGreat.Script Go.Proofs.YtfomhdhiibcdfaaGreat.Tree Go.Proofs.YtfomhdhiibcdfaaGreat.Shelf Go.Proofs.YtfomhdhiibcdfaaGreat.Space Go.Proofs.YtfomhdhiibcdfaaGreat.Spot
set_option linter.unusedVariables false
set_option linter.unusedSimpArgs false

/-- What is said of a document's spot that a function answers. -/
def GivenR (x : Rp) (B : Nat) (w : World) (v : Value) : Prop := ∃ A n c, v = rpv x A n c ∧ Mine w B A n c x.ms
theorem given_keeps (x : Rp) (B : Nat) : Hold.Keeps (GivenR x B) := fun w w' u k ⟨A, n, c, e, h⟩ => ⟨A, n, c, e, h.below k⟩
theorem given_of {f : FuncId} {args : Array Value} {w : World} {x : Rp} {B : Nat} (hB : B ≤ w.heap.size) (h : Calls Tryz.prog f args w (GivesR w x)) :
    Calls Tryz.prog f args w fun e w' => ∃ u, e = .returned u ∧ GivenR x B w' u ∧ Below w.heap.size w w' :=
  h.mono fun e w' ⟨⟨A, n, c, he, hm⟩, hb⟩ => ⟨_, he, ⟨A, n, c, rfl, Mine.mono hm hB⟩, hb⟩

/-- What is asked of the document's Past, for all boxes with no more behind them. -/
def RefPast (bs : List Bx) (fs : List Fl) (f : Nat) : Prop :=
  ∀ (i : Nat) (k : Rl) (A : Option Addr) (n c : Nat) (AL : Option Addr) (cL : Nat) (AF : Option Addr) (cF : Nat) (t : Nat) (w : World), i < bs.length → bs.length - i ≤ f → k.e = false → Slim t k → t + 2 * (bs.length - i) ≤ 900 → Held w A n c k.x.ms →
    Boxes w w.heap.size AL bs → Floats w w.heap.size AF fs → Calls Tryz.prog 11 #[.slice AL bs.length cL, .slice AF fs.length cF, .int .i64 (i : Int), rlv k A n c] w (GivesP w A n c k.x.ms (pastF bs fs f i k))

/-- How all lies in Into's loop. -/
structure InSt (w wx : World) (b7 : Nat) (b : Bx) (k : Rl) (A : Option Addr) (n c : Nat) : Prop where
  low : Below w.heap.size w wx
  look : Lies wx b7 (rlrow k A n c)
  out : Lies wx (b7 + 1) (rlrow zeroRl none 0 0)
  box : At wx (b7 + 2) b
  mine : Mine wx (b7 + 3) A n c k.x.ms

theorem hor_mine {w5 : World} {B C : Nat} {A' A : Option Addr} {n' n c' c : Nat} {msn ms : List Int} (hor : (A' = A ∧ n' = n ∧ c' = c ∧ msn = ms) ∨ Mine w5 C A' n' c' msn) (hm : Mine w5 B A n c ms) (hC : B ≤ C) : Mine w5 B A' n' c' msn := by
  rcases hor with ⟨rfl, rfl, rfl, rfl⟩ | h
  · exact hm
  · exact Mine.mono h hC

theorem InSt.below {w wx wy : World} {b7 : Nat} {b : Bx} {k : Rl} {A : Option Addr} {n c : Nat} (h : InSt w wx b7 b k A n c) (j : Below wx.heap.size wx wy) : InSt w wy b7 b k A n c :=
  ⟨thru h.low j, h.look.below (by simp) j, h.out.below (by simp) j, h.box.below h.box.lt j, h.mine.below j⟩
/-- The look is written anew, with a list that lies apart. -/
theorem InSt.onto {w wx wy : World} {b7 : Nat} {b : Bx} {k k' : Rl} {A A' : Option Addr} {n c n' c' : Nat} (h : InSt w wx b7 b k A n c) (hb : w.heap.size ≤ b7) (sv : Save (fun j => j = b7) wx wy) (hl : Lies wy b7 (rlrow k' A' n' c')) (hm : Mine wx (b7 + 3) A' n' c' k'.x.ms) : InSt w wy b7 b k' A' n' c' :=
  ⟨h.low.trans (sv.blw hb h.low.size), hl, h.out.save (by simp) sv (show ¬ b7 + 1 = b7 by omega), by
    have e : ∀ o, wy.cell? ⟨b7 + 2, o, none⟩ = wx.cell? ⟨b7 + 2, o, none⟩ := fun o => World.cell?_of_block (a := ⟨b7 + 2, o, none⟩) (sv.block _ h.box.lt (show ¬ b7 + 2 = b7 by omega))
    have hx := h.box
    unfold At at *
    simp only [e]
    exact hx, mine_save hm sv fun j hj e => by have := (hm.lt j hj).1; omega⟩
theorem InSt.cells {w wx : World} {b7 : Nat} {b : Bx} {k : Rl} {A : Option Addr} {n c : Nat} (h : InSt w wx b7 b k A n c) : LkAt wx b7 k A n c ∧ LkFr wx b7 ∧ LkAt wx (b7 + 1) zeroRl none 0 0 ∧ LkFr wx (b7 + 1) :=
  ⟨lkat_of h.look, lkfr_of h.look, lkat_of h.out, lkfr_of h.out⟩

theorem sorted_len : ∀ (l : List Nat) (a m : Nat), l.Pairwise (· < ·) → (∀ x ∈ l, a ≤ x ∧ x < m) → l.length ≤ m - a
  | [], _, _, _, _ => Nat.zero_le _
  | x :: l, a, m, hs, hb => by
    have h1 := List.pairwise_cons.1 hs
    have h2 := hb x (List.mem_cons_self ..)
    have h3 := sorted_len l (x + 1) m h1.2 fun z hz => ⟨h1.1 z hz, (hb z (List.mem_cons_of_mem _ hz)).2⟩
    simp only [List.length_cons]
    omega

set_option maxRecDepth 100000 in
set_option maxHeartbeats 4000000 in
theorem hrinto_any (bs : List Bx) (fs : List Fl) (f : Nat) (hW : Wood bs) (hP : RefPast bs fs f) (i : Nat) (k : Rl) (A : Option Addr) (n c : Nat) (ad0 : Addr) (cL : Nat) (AF : Option Addr) (cF : Nat) (t : Nat) (w : World)
    (hi : i < bs.length) (hf : bs.length - i ≤ f + 1) (hke : k.e = false) (hs : Slim t k) (ht : t + 2 * (bs.length - i) ≤ 900) (hh : Held w A n c k.x.ms) (hL : Boxes w w.heap.size (some ad0) bs) (hF : Floats w w.heap.size AF fs) :
    Calls Tryz.prog 10 #[.slice (some ad0) bs.length cL, .slice AF fs.length cF, .int .i64 (i : Int), rlv k A n c] w (GivesI w (intoF bs fs f i k)) := by
  obtain ⟨m, hm⟩ : ∃ m, bs.length = m := ⟨_, rfl⟩
  have hii : (i : Int) < (m : Int) := by omega
  have hi0 : ¬ (i : Int) < 0 := by omega
  obtain ⟨b, hb⟩ : ∃ b, bs.getD i noB = b := ⟨_, rfl⟩
  have hmarg := hW.marg i hi
  rw [hb] at hmarg
  have hkids := fun w' (j : Below w.heap.size w w') => refkids_any (some ad0) m cL bs i w' hm.symm (by have := hW.len; omega) (by omega) (hL.thru j) (fun q hq => hW.deep q (by omega))
  obtain ⟨ks, hks⟩ : ∃ ks, kids (dOf bs) m i = ks := ⟨_, rfl⟩
  rw [hks] at hkids
  have HKi := Lib.hid hkids
  obtain ⟨G, hG⟩ : ∃ G, intoF bs fs f i k = G := ⟨_, rfl⟩
  rw [hG, hm]
  have HG : Hid ((0 < b.e0 → G = { k with x := withR k.x b.m0, e := true }) ∧ (¬ 0 < b.e0 → G = endK b (goK bs (pastF bs fs f) ks { k with x := withR k.x b.m0 }))) := Lib.hid (by
    rw [← hG, ← hb, ← hks, ← hm]
    refine ⟨fun h => ?_, fun h => ?_⟩
    · unfold intoF intoOf; rw [if_pos h]
    · unfold intoF intoOf; rw [if_neg h])
  have HKs : Hid (ks.Pairwise (· < ·) ∧ ∀ q ∈ ks, q ∈ kids (dOf bs) bs.length i) := Lib.hid (by rw [← hks, hm]; exact ⟨kids_sorted _ _ _, fun q h => h⟩)
  have HPa := Lib.hid hP
  have HWo := Lib.hid hW
  have HL := Lib.hid hL
  have HF := Lib.hid hF
  have HH := Lib.hid hh
  have HSl := Lib.hid (⟨hs, ht, hi, hf, hm, hke⟩ : Slim t k ∧ t + 2 * (bs.length - i) ≤ 900 ∧ i < bs.length ∧ bs.length - i ≤ f + 1 ∧ bs.length = m ∧ k.e = false)
  obtain ⟨ad1, hA1, hadB, hat⟩ := hL i hi
  obtain rfl : ad0 = ad1 := by injection hA1
  rw [hb] at hat
  have HAt := Lib.hid (⟨hadB, hat, hmarg⟩ : ad0.block < w.heap.size ∧ AtP w (ad0.add (i * 14)) b ∧ (in50 b.m0 = true ∧ in50 b.m2 = true))
  obtain ⟨⟨y, ms, hd, sp⟩, l, r, e⟩ := k
  dsimp only at hke
  subst hke
  clear hL hF hh hs ht hP hW hkids hks hG hm hi hf hA1 hadB hat hb hmarg
  go_enter Tryz.func10, Tryz.ntmps10
  go_upto_region 1 with fail
  generalize hW1 : World.alloc (World.alloc _ _) _ = W
  have L3 := two_news w 35 35 (rlrow ⟨⟨y, ms, hd, sp⟩, l, r, false⟩ A n c) (rlrow zeroRl none 0 0) (by simp)
  replace L3 := (show Lies W w.heap.size (rlrow ⟨⟨y, ms, hd, sp⟩, l, r, false⟩ A n c) ∧ Lies W (w.heap.size + 1) (rlrow zeroRl none 0 0) ∧ Below w.heap.size w W ∧ W.heap.size = w.heap.size + 2 by rw [← hW1]; exact ⟨L3.1, L3.2.1, L3.2.2, by simp⟩)
  obtain ⟨b7, hb7⟩ : ∃ b7, w.heap.size = b7 := ⟨_, rfl⟩
  have HB := Lib.hid (⟨Nat.le_of_eq hb7, by omega⟩ : w.heap.size ≤ b7 ∧ w.heap.size ≤ b7 + 3)
  have K3 := Lib.hid (⟨L3.2.2.1, by rw [← hb7]; exact L3.1, by rw [← hb7]; exact L3.2.1, by rw [← hb7]; exact L3.2.2.2⟩ : Below w.heap.size w W ∧ Lies W b7 (rlrow ⟨⟨y, ms, hd, sp⟩, l, r, false⟩ A n c) ∧ Lies W (b7 + 1) (rlrow zeroRl none 0 0) ∧ W.heap.size = b7 + 2)
  rw [hb7]
  clear hW1 L3 hb7
  obtain ⟨d0, d1, d2, d3, d4, d5, d6, d7, d8, d9, d10, d11, d12, d13⟩ := HAt.out.2.1.below (B := w.heap.size) (by rw [block_of_add]; exact HAt.out.1) K3.out.1
  go_upto_region 2 with fail
  clear d0 d1 d2 d3 d4 d5 d6 d7 d8 d9 d10 d11 d12 d13
  generalize hW2 : World.alloc W _ = W2
  have z9 : At W2 (b7 + 2) b := by rw [← hW2, ← K3.out.2.2.2]; exact At.of_block (heap_alloc_new W _)
  have k2 : Below W.heap.size W W2 := by rw [← hW2]; exact ba1 _ _
  rw [K3.out.2.2.2]
  have K4 := Lib.hid (⟨thru K3.out.1 k2, K3.out.2.1.below (by simp) k2, K3.out.2.2.1.below (by simp) k2, z9, by rw [← hW2]; simp [K3.out.2.2.2]⟩ : Below w.heap.size w W2 ∧ Lies W2 b7 (rlrow ⟨⟨y, ms, hd, sp⟩, l, r, false⟩ A n c) ∧ Lies W2 (b7 + 1) (rlrow zeroRl none 0 0) ∧ At W2 (b7 + 2) b ∧ W2.heap.size = b7 + 3)
  clear hW2 k2 z9 K3
  obtain ⟨c0, c1, c2, c3, c4, c5, c6⟩ := lkat_of K4.out.2.1
  obtain ⟨-, -, -, -, -, -, x6, -⟩ := K4.out.2.2.2.1
  go_upto_region 3 with (first
    | (go_at_call 25; refine (grwith_any ⟨y, ms, hd, sp⟩ A n c b.m0 W2 (HH.out.below K4.out.1) (by have := HSl.out.1.2.2; have := HSl.out.2.1; dsimp only at *; omega)).mono ?_; rintro e w3 ⟨⟨A1, n1, c1', rfl, hm3⟩, k3⟩; clear c0 c1 c2 c3 c4 c5 c6 x6; have z7 := K4.out.2.1.below (by simp) k3; obtain ⟨c0, c1, c2, c3, c4, c5, c6⟩ := lkat_of z7; obtain ⟨f0, f1, f2, f3, f4, f5, f6⟩ := lkfr_of z7; have K5 := Lib.hid (⟨thru K4.out.1 k3, z7, K4.out.2.2.1.below (by simp) k3, K4.out.2.2.2.1.below K4.out.2.2.2.1.lt k3, by rw [← K4.out.2.2.2.2]; exact hm3⟩ : Below w.heap.size w w3 ∧ Lies w3 b7 (rlrow ⟨⟨y, ms, hd, sp⟩, l, r, false⟩ A n c) ∧ Lies w3 (b7 + 1) (rlrow zeroRl none 0 0) ∧ At w3 (b7 + 2) b ∧ Mine w3 (b7 + 3) A1 n1 c1' (ms ++ [b.m0])); clear hm3 k3 z7 K4))
  generalize hV : World.setCell (World.setCell (World.setCell (World.setCell w3 _ _) _ _) _ _) _ _ = V
  have zV : InSt w V b7 b ⟨⟨y, ms ++ [b.m0], hd, sp⟩, l, r, false⟩ A1 n1 c1' := by
    rw [← hV]
    have sv := Save.four w3 b7 (.int .i64 y) (.slice A1 n1 c1') (.bool hd) (.bool sp)
    have st : InSt w w3 b7 b ⟨⟨y, ms ++ [b.m0], hd, sp⟩, l, r, false⟩ A1 n1 c1' ∨ True := .inr trivial
    have hb2 := K5.out.2.2.2.1
    exact ⟨K5.out.1.trans (sv.blw HB.out.1 K5.out.1.size), (((K5.out.2.1.set 0 (.int .i64 y) (by simp)).set 1 (.slice A1 n1 c1') (by simp)).set 2 (.bool hd) (by simp)).set 3 (.bool sp) (by simp), K5.out.2.2.1.save (by simp) sv (show ¬ b7 + 1 = b7 by omega), by
      have e : ∀ o, (World.setCell (World.setCell (World.setCell (World.setCell w3 ⟨b7, 0, none⟩ (.int .i64 y)) ⟨b7, 1, none⟩ (.slice A1 n1 c1')) ⟨b7, 2, none⟩ (.bool hd)) ⟨b7, 3, none⟩ (.bool sp)).cell? ⟨b7 + 2, o, none⟩ = w3.cell? ⟨b7 + 2, o, none⟩ := fun o => World.cell?_of_block (a := ⟨b7 + 2, o, none⟩) (sv.block _ hb2.lt (show ¬ b7 + 2 = b7 by omega))
      unfold At at *
      simp only [e]
      exact hb2, mine_save K5.out.2.2.2.2 sv fun j hj e => by have := (K5.out.2.2.2.2.lt j hj).1; omega⟩
  have HV := Lib.hid zV
  clear zV hV K5 c0 c1 c2 c3 c4 c5 c6 f0 f1 f2 f3 f4 f5 f6
  obtain ⟨-, -, -, -, -, -, -, -, -, -, x10, -⟩ := HV.out.box
  obtain ⟨c0, c1, c2, c3, c4, c5, c6⟩ := HV.out.cells.1
  obtain ⟨f0, f1, f2, f3, f4, f5, f6⟩ := HV.out.cells.2.1
  obtain ⟨o0, o1, o2, o3, o4, o5, o6⟩ := HV.out.cells.2.2.1
  obtain ⟨g0, g1, g2, g3, g4', g5, g6⟩ := HV.out.cells.2.2.2
  by_cases he0 : 0 < b.e0
  · have hgt : G = ⟨⟨y, ms ++ [b.m0], hd, sp⟩, l, r, true⟩ := HG.out.1 (by omega)
    subst hgt
    go_upto_region 5 with fail
    generalize hU : World.setCell V _ _ = U
    have zU : InSt w U b7 b ⟨⟨y, ms ++ [b.m0], hd, sp⟩, l, r, true⟩ A1 n1 c1' := by
      rw [← hU]
      exact HV.out.onto HB.out.1 (Save.set b7 6 _) (HV.out.look.set 6 (.bool true) (by simp)) HV.out.mine
    have HU := Lib.hid zU
    clear zU hU
    clear c0 c1 c2 c3 c4 c5 c6 f0 f1 f2 f3 f4 f5 f6 o0 o1 o2 o3 o4 o5 o6 g0 g1 g2 g3 g4' g5 g6
    obtain ⟨c0, c1, c2, c3, c4, c5, c6⟩ := HU.out.cells.1
    obtain ⟨f0, f1, f2, f3, f4, f5, f6⟩ := HU.out.cells.2.1
    obtain ⟨o0, o1, o2, o3, o4, o5, o6⟩ := HU.out.cells.2.2.1
    obtain ⟨g0, g1, g2, g3, g4', g5, g6⟩ := HU.out.cells.2.2.2
    go_wp2_with fail
    refine bodyPost_ret (v := rlv ⟨⟨y, ms ++ [b.m0], hd, sp⟩, l, r, true⟩ A1 n1 c1') (by simp [results, Tryz.results10, go_sem, o0, o1, o2, o3, o4, o5, o6]) rfl ?_
    have sv := save_seven U (b7 + 1) (.int .i64 y) (.slice A1 n1 c1') (.bool hd) (.bool sp) (.bool l) (.bool r) (.bool true)
    refine ⟨⟨_, _, _, rfl, Mine.mono (mine_save HU.out.mine sv fun j hj e => by have := (HU.out.mine.lt j hj).1; omega) HB.out.2⟩, HU.out.low.trans (sv.blw (by have := HB.out.1; omega) HU.out.low.size)⟩
  · obtain ⟨R, hR⟩ : ∃ R, goK bs (pastF bs fs f) ks ⟨⟨y, ms ++ [b.m0], hd, sp⟩, l, r, false⟩ = R := ⟨_, rfl⟩
    have hGR : G = endK b R := by rw [← hR]; exact HG.out.2 (by omega)
    have HGR := Lib.hid hGR
    obtain ⟨q, hq⟩ : ∃ q, ks.length = q := ⟨_, rfl⟩
    rw [hq] at HKi
    have HQ := Lib.hid hq
    have hsl1 : Slim (t + 1) (⟨⟨y, ms ++ [b.m0], hd, sp⟩, l, r, false⟩ : Rl) := HSl.out.1.less (Less.with rfl HAt.out.2.2.1) (Nat.le_refl _)
    have HS1 := Lib.hid (⟨hsl1, hR⟩ : Slim (t + 1) (⟨⟨y, ms ++ [b.m0], hd, sp⟩, l, r, false⟩ : Rl) ∧ goK bs (pastF bs fs f) ks ⟨⟨y, ms ++ [b.m0], hd, sp⟩, l, r, false⟩ = R)
    clear hGR hq hsl1 hR
    go_upto_region 7 with (first
      | (go_at_call 26; refine (HKi.out V HV.out.low).mono ?_; rintro e w4 ⟨⟨A4, c4', rfl, hm4⟩, k4⟩; have K6 := Lib.hid (⟨HV.out.below k4, Mine.mono hm4 (show b7 + 3 ≤ V.heap.size from HV.out.box.lt)⟩ : InSt w w4 b7 b ⟨⟨y, ms ++ [b.m0], hd, sp⟩, l, r, false⟩ A1 n1 c1' ∧ Mine w4 (b7 + 3) A4 q c4' (ks.map Int.ofNat)); clear hm4 k4))
    clear c0 c1 c2 c3 c4 c5 c6 f0 f1 f2 f3 f4 f5 f6 o0 o1 o2 o3 o4 o5 o6 g0 g1 g2 g3 g4' g5 g6
    clear x10
    go_wp2_with fail
    go_loopw [33] (fun i' wr => ∃ (j : Nat) (kj : Rl) (Aj : Option Addr) (nj cj : Nat), j ≤ q ∧ i' = .int .i64 (j : Int) ∧ Hid (InSt w wr b7 b kj Aj nj cj ∧ Mine wr (b7 + 3) A4 q c4' (ks.map Int.ofNat) ∧ kj.e = false ∧ goK bs (pastF bs fs f) (ks.drop j) kj = R ∧ ∃ tj lo, Slim tj kj ∧ tj + 2 * (m - lo) ≤ 900 ∧ (∀ c' ∈ ks.drop j, lo ≤ c') ∧ lo ≤ m)) (fun i' _ => q - (intOf i').toNat)
    case atStart =>
      refine ⟨0, ⟨⟨y, ms ++ [b.m0], hd, sp⟩, l, r, false⟩, A1, n1, c1', Nat.zero_le _, rfl, Lib.hid ⟨K6.out.1, K6.out.2, rfl, HS1.out.2, t + 1, i + 1, HS1.out.1, ?_, ?_, ?_⟩⟩
      · have := HSl.out; omega
      · intro c' hc'
        have := ((mem_kids _ _ _ _).1 (HKs.out.2 c' hc')).2.1
        omega
      · have := HSl.out; omega
    case round =>
      obtain ⟨j, kj, Aj, nj, cj, hj, rfl, H⟩ := hrel
      by_cases hlt : j < q
      · have hki : (j : Int) < (q : Int) := by omega
        have hk0 : ¬ (j : Int) < 0 := by omega
        obtain ⟨cc, hcc⟩ : ∃ cc, ks[j]? = some cc := ⟨_, List.getElem?_eq_getElem (by rw [HQ.out]; exact hlt)⟩
        have hmem : cc ∈ ks := List.mem_of_getElem? hcc
        have hdr : ks.drop j = cc :: ks.drop (j + 1) := by rw [List.drop_eq_getElem_cons (by rw [HQ.out]; exact hlt)]; congr 1; exact Option.some.inj ((List.getElem?_eq_getElem _).symm.trans hcc)
        have hkid := HKs.out.2 cc hmem
        obtain ⟨hc1, hc2, -⟩ := (mem_kids _ _ _ _).1 hkid
        have hen := (en_spec (dOf bs) bs.length i HSl.out.2.2.1).2.1
        have hccm : cc < m := by have := HSl.out; omega
        have hccb : cc < bs.length := by have := HSl.out; omega
        have hci : (cc : Int) < (m : Int) := by omega
        have hc0 : ¬ (cc : Int) < 0 := by omega
        have hwk : IntKind.i64.wrap ((j : Int) + 1) = (j : Int) + 1 := by
          refine IntWalk.i64_in _ ?_
          have := HWo.out.len
          have h2 : q ≤ bs.length := by rw [← HQ.out]; exact sorted_len ks 0 bs.length HKs.out.1 fun a ha => ⟨Nat.zero_le _, by have := ((mem_kids _ _ _ _).1 (HKs.out.2 a ha)).1; omega⟩
          omega
        obtain ⟨g4, hA4, -, hcell⟩ := (Mine.nums H.out.2.1) j (by rw [List.length_map, HQ.out]; exact hlt)
        have hval : (ks.map Int.ofNat).getD j 0 = (cc : Int) := by simp [List.getD, hcc]
        rw [hval] at hcell
        subst hA4
        obtain ⟨kn, hkn⟩ : ∃ kn, stepK bs (pastF bs fs f) cc kj = kn := ⟨_, rfl⟩
        obtain ⟨tj, lo, hsl, htl, hlo, hlm⟩ := H.out.2.2.2.2
        have hlc : lo ≤ cc := hlo cc (by rw [hdr]; exact List.mem_cons_self ..)
        obtain ⟨hen2, hen3, -⟩ := en_spec (dOf bs) bs.length cc hccb
        have hls := step_less (past := pastF bs fs f) HWo.out.marg cc hccb (fun k => past_less HWo.out.marg f cc hccb (by have := HSl.out; omega) k) kj
        rw [hkn] at hls
        have hnext : goK bs (pastF bs fs f) (cc :: ks.drop (j + 1)) kj = R := by rw [← hdr]; exact H.out.2.2.2.1
        unfold goK at hnext
        rw [hkn] at hnext
        have hnx : Slim (tj + 2 * (en (dOf bs) bs.length cc - cc)) kn ∧ (tj + 2 * (en (dOf bs) bs.length cc - cc)) + 2 * (m - en (dOf bs) bs.length cc) ≤ 900 ∧ (∀ c' ∈ ks.drop (j + 1), en (dOf bs) bs.length cc ≤ c') ∧ en (dOf bs) bs.length cc ≤ m := by
          refine ⟨hsl.less hls (Nat.le_refl _), ?_, fun c' hc' => ?_, by have := HSl.out; omega⟩
          · have := HSl.out; omega
          · have hpw : (ks.drop j).Pairwise (· < ·) := List.Pairwise.sublist (List.drop_sublist _ _) HKs.out.1
            rw [hdr] at hpw
            exact kid_next HSl.out.2.2.1 hkid (HKs.out.2 c' (List.mem_of_mem_drop hc')) ((List.pairwise_cons.1 hpw).1 c' hc')
        have HN := Lib.hid (⟨hnx, hnext⟩ : (Slim (tj + 2 * (en (dOf bs) bs.length cc - cc)) kn ∧ (tj + 2 * (en (dOf bs) bs.length cc - cc)) + 2 * (m - en (dOf bs) bs.length cc) ≤ 900 ∧ (∀ c' ∈ ks.drop (j + 1), en (dOf bs) bs.length cc ≤ c') ∧ en (dOf bs) bs.length cc ≤ m) ∧ (if kn.e = true then kn else goK bs (pastF bs fs f) (ks.drop (j + 1)) kn) = R)
        have HJ := Lib.hid (⟨hsl, by have := HSl.out; omega, by have := HSl.out; omega, hccb⟩ : Slim tj kj ∧ tj + 2 * (bs.length - cc) ≤ 900 ∧ bs.length - cc ≤ f ∧ cc < bs.length)
        have hkej := H.out.2.2.1
        obtain ⟨x, hx⟩ : ∃ x, bs.getD cc noB = x := ⟨_, rfl⟩
        have hkind := HWo.out.kind cc hccb
        have hclr := HWo.out.clr cc hccb
        rw [hx] at hkind hclr
        obtain ⟨ad1, hA1, hadB, hat⟩ := HL.out cc hccb
        obtain rfl : ad0 = ad1 := by injection hA1
        rw [hx] at hat
        have HXa := Lib.hid (fun w' (jj : Below w.heap.size w w') => hat.below (B := w.heap.size) (by rw [block_of_add]; exact hadB) jj)
        have HXx := Lib.hid (⟨hx, hkind, hclr⟩ : bs.getD cc noB = x ∧ (1 ≤ x.k ∧ x.k ≤ 5) ∧ (0 ≤ x.c ∧ x.c ≤ 3))
        have HKn : Hid (kn = (if x.k = 2 then { kj with l := kj.l || x.s == 1, r := kj.r || x.s == 2 } else if x.k = 5 then { kj with e := true } else if x.k = 3 then { kj with x := (bif clrL x.c kj.l kj.r then kj.x else withR kj.x x.m0), e := true } else pastF bs fs f cc kj)) := Lib.hid (by rw [← hkn, ← hx]; rfl)
        have HI := Lib.hid (⟨H.out.1, H.out.2.1⟩ : InSt w wr b7 b kj Aj nj cj ∧ Mine wr (b7 + 3) (some g4) q c4' (ks.map Int.ofNat))
        obtain ⟨⟨yj, mj, hj', sj⟩, lj, rj, ej⟩ := kj
        dsimp only at hkej
        subst hkej
        obtain ⟨-, a1, -⟩ := HXa.out wr HI.out.1.low
        clear H hcc hmem hdr hkid hc1 hc2 hen hval hkn hsl htl hlo hlm hlc hen2 hen3 hls hnext hnx hx hkind hclr hA1 hadB hat hccm hccb
        go_upto_region 9 with fail
        clear hcell
        go_upto_block 2 with fail
        go_cut [41] (fun tt wx => tt = .int .i64 x.k ∧ ∃ (A' : Option Addr) (n' c' : Nat), Hid (InSt w wx b7 b kn A' n' c' ∧ Mine wx (b7 + 3) (some g4) q c4' (ks.map Int.ofNat)))
        case first =>
          have hkk := HXx.out.2.1
          by_cases h2 : x.k = 2
          · have hb2 : (x.k == 2) = true := by simp; omega
            have hkv : kn = ⟨⟨yj, mj, hj', sj⟩, lj || x.s == 1, rj || x.s == 2, false⟩ := by rw [HKn.out, if_pos h2]
            have HKv := Lib.hid hkv
            clear h2 hkk a1 hkv
            obtain ⟨c0, c1, c2, c3, c4, c5, c6⟩ := HI.out.1.cells.1
            obtain ⟨f0, f1, f2, f3, f4, f5, f6⟩ := HI.out.1.cells.2.1
            obtain ⟨o0, o1, o2, o3, o4, o5, o6⟩ := HI.out.1.cells.2.2.1
            obtain ⟨g0, g1, g2, g3, g4', g5, g6⟩ := HI.out.1.cells.2.2.2
            obtain ⟨-, -, a2, -⟩ := HXa.out wr HI.out.1.low
            obtain ⟨v1, hv1⟩ : ∃ v, (x.s == 1) = v := ⟨_, rfl⟩
            obtain ⟨v2, hv2⟩ : ∃ v, (x.s == 2) = v := ⟨_, rfl⟩
            have HV12 := Lib.hid (⟨hv1, hv2⟩ : (x.s == 1) = v1 ∧ (x.s == 2) = v2)
            cases lj <;> cases rj
            · go_upto_region 13 with fail
              generalize hU : World.setCell wr _ _ = U
              have zU : InSt w U b7 b ⟨⟨yj, mj, hj', sj⟩, v1, false, false⟩ Aj nj cj ∧ Mine U (b7 + 3) (some g4) q c4' (ks.map Int.ofNat) := by
                rw [← hU]
                have sv := Save.set (w := wr) b7 4 (.bool v1)
                exact ⟨HI.out.1.onto HB.out.1 sv (HI.out.1.look.set 4 (.bool v1) (by simp)) HI.out.1.mine, mine_save HI.out.2 sv fun j hj e => by have := (HI.out.2.lt j hj).1; omega⟩
              have HU := Lib.hid zU
              clear zU hU a2
              clear c0 c1 c2 c3 c4 c5 c6 f0 f1 f2 f3 f4 f5 f6 o0 o1 o2 o3 o4 o5 o6 g0 g1 g2 g3 g4' g5 g6
              obtain ⟨-, -, a2, -⟩ := HXa.out U HU.out.1.low
              obtain ⟨c0, c1, c2, c3, c4, c5, c6⟩ := HU.out.1.cells.1
              obtain ⟨f0, f1, f2, f3, f4, f5, f6⟩ := HU.out.1.cells.2.1
              go_wp2_with fail
              go_meet
              refine ⟨rfl, Aj, nj, cj, Lib.hid ?_⟩
              have hk2 : kn = ⟨⟨yj, mj, hj', sj⟩, v1, v2, false⟩ := by rw [HKv.out, HV12.out.1, HV12.out.2]; rfl
              rw [hk2]
              have sv := Save.set (w := U) b7 5 (.bool v2)
              exact ⟨HU.out.1.onto HB.out.1 sv (HU.out.1.look.set 5 (.bool v2) (by simp)) HU.out.1.mine, mine_save HU.out.2 sv fun j hj e => by have := (HU.out.2.lt j hj).1; omega⟩
            · go_upto_region 13 with fail
              generalize hU : World.setCell wr _ _ = U
              have zU : InSt w U b7 b ⟨⟨yj, mj, hj', sj⟩, v1, true, false⟩ Aj nj cj ∧ Mine U (b7 + 3) (some g4) q c4' (ks.map Int.ofNat) := by
                rw [← hU]
                have sv := Save.set (w := wr) b7 4 (.bool v1)
                exact ⟨HI.out.1.onto HB.out.1 sv (HI.out.1.look.set 4 (.bool v1) (by simp)) HI.out.1.mine, mine_save HI.out.2 sv fun j hj e => by have := (HI.out.2.lt j hj).1; omega⟩
              have HU := Lib.hid zU
              clear zU hU a2
              clear c0 c1 c2 c3 c4 c5 c6 f0 f1 f2 f3 f4 f5 f6 o0 o1 o2 o3 o4 o5 o6 g0 g1 g2 g3 g4' g5 g6
              obtain ⟨-, -, a2, -⟩ := HXa.out U HU.out.1.low
              obtain ⟨c0, c1, c2, c3, c4, c5, c6⟩ := HU.out.1.cells.1
              obtain ⟨f0, f1, f2, f3, f4, f5, f6⟩ := HU.out.1.cells.2.1
              go_wp2_with fail
              go_meet
              refine ⟨rfl, Aj, nj, cj, Lib.hid ?_⟩
              have hk2 : kn = ⟨⟨yj, mj, hj', sj⟩, v1, true, false⟩ := by rw [HKv.out, HV12.out.1, HV12.out.2]; rfl
              rw [hk2]
              have sv := Save.set (w := U) b7 5 (.bool true)
              exact ⟨HU.out.1.onto HB.out.1 sv (HU.out.1.look.set 5 (.bool true) (by simp)) HU.out.1.mine, mine_save HU.out.2 sv fun j hj e => by have := (HU.out.2.lt j hj).1; omega⟩
            · go_upto_region 13 with fail
              generalize hU : World.setCell wr _ _ = U
              have zU : InSt w U b7 b ⟨⟨yj, mj, hj', sj⟩, true, false, false⟩ Aj nj cj ∧ Mine U (b7 + 3) (some g4) q c4' (ks.map Int.ofNat) := by
                rw [← hU]
                have sv := Save.set (w := wr) b7 4 (.bool true)
                exact ⟨HI.out.1.onto HB.out.1 sv (HI.out.1.look.set 4 (.bool true) (by simp)) HI.out.1.mine, mine_save HI.out.2 sv fun j hj e => by have := (HI.out.2.lt j hj).1; omega⟩
              have HU := Lib.hid zU
              clear zU hU a2
              clear c0 c1 c2 c3 c4 c5 c6 f0 f1 f2 f3 f4 f5 f6 o0 o1 o2 o3 o4 o5 o6 g0 g1 g2 g3 g4' g5 g6
              obtain ⟨-, -, a2, -⟩ := HXa.out U HU.out.1.low
              obtain ⟨c0, c1, c2, c3, c4, c5, c6⟩ := HU.out.1.cells.1
              obtain ⟨f0, f1, f2, f3, f4, f5, f6⟩ := HU.out.1.cells.2.1
              go_wp2_with fail
              go_meet
              refine ⟨rfl, Aj, nj, cj, Lib.hid ?_⟩
              have hk2 : kn = ⟨⟨yj, mj, hj', sj⟩, true, v2, false⟩ := by rw [HKv.out, HV12.out.1, HV12.out.2]; rfl
              rw [hk2]
              have sv := Save.set (w := U) b7 5 (.bool v2)
              exact ⟨HU.out.1.onto HB.out.1 sv (HU.out.1.look.set 5 (.bool v2) (by simp)) HU.out.1.mine, mine_save HU.out.2 sv fun j hj e => by have := (HU.out.2.lt j hj).1; omega⟩
            · go_upto_region 13 with fail
              generalize hU : World.setCell wr _ _ = U
              have zU : InSt w U b7 b ⟨⟨yj, mj, hj', sj⟩, true, true, false⟩ Aj nj cj ∧ Mine U (b7 + 3) (some g4) q c4' (ks.map Int.ofNat) := by
                rw [← hU]
                have sv := Save.set (w := wr) b7 4 (.bool true)
                exact ⟨HI.out.1.onto HB.out.1 sv (HI.out.1.look.set 4 (.bool true) (by simp)) HI.out.1.mine, mine_save HI.out.2 sv fun j hj e => by have := (HI.out.2.lt j hj).1; omega⟩
              have HU := Lib.hid zU
              clear zU hU a2
              clear c0 c1 c2 c3 c4 c5 c6 f0 f1 f2 f3 f4 f5 f6 o0 o1 o2 o3 o4 o5 o6 g0 g1 g2 g3 g4' g5 g6
              obtain ⟨-, -, a2, -⟩ := HXa.out U HU.out.1.low
              obtain ⟨c0, c1, c2, c3, c4, c5, c6⟩ := HU.out.1.cells.1
              obtain ⟨f0, f1, f2, f3, f4, f5, f6⟩ := HU.out.1.cells.2.1
              go_wp2_with fail
              go_meet
              refine ⟨rfl, Aj, nj, cj, Lib.hid ?_⟩
              have hk2 : kn = ⟨⟨yj, mj, hj', sj⟩, true, true, false⟩ := by rw [HKv.out, HV12.out.1, HV12.out.2]; rfl
              rw [hk2]
              have sv := Save.set (w := U) b7 5 (.bool true)
              exact ⟨HU.out.1.onto HB.out.1 sv (HU.out.1.look.set 5 (.bool true) (by simp)) HU.out.1.mine, mine_save HU.out.2 sv fun j hj e => by have := (HU.out.2.lt j hj).1; omega⟩
          · by_cases h5 : x.k = 5
            · have hb2 : (x.k == 2) = false := by simp; omega
              have hb5 : (x.k == 5) = true := by simp; omega
              have HKv := Lib.hid (show kn = ⟨⟨yj, mj, hj', sj⟩, lj, rj, true⟩ by rw [HKn.out, if_neg h2, if_pos h5])
              clear h2 h5 hkk a1
              obtain ⟨c0, c1, c2, c3, c4, c5, c6⟩ := HI.out.1.cells.1
              obtain ⟨f0, f1, f2, f3, f4, f5, f6⟩ := HI.out.1.cells.2.1
              obtain ⟨o0, o1, o2, o3, o4, o5, o6⟩ := HI.out.1.cells.2.2.1
              obtain ⟨g0, g1, g2, g3, g4', g5, g6⟩ := HI.out.1.cells.2.2.2
              go_wp2_with fail
              go_meet
              refine ⟨rfl, Aj, nj, cj, Lib.hid ?_⟩
              rw [HKv.out]
              have sv := Save.set (w := wr) b7 6 (.bool true)
              exact ⟨HI.out.1.onto HB.out.1 sv (HI.out.1.look.set 6 (.bool true) (by simp)) HI.out.1.mine, mine_save HI.out.2 sv fun j hj e => by have := (HI.out.2.lt j hj).1; omega⟩
            · by_cases h3 : x.k = 3
              · have hb2 : (x.k == 2) = false := by simp; omega
                have hb5 : (x.k == 5) = false := by simp; omega
                have hb3 : (x.k == 3) = true := by simp; omega
                obtain ⟨v, hv⟩ : ∃ v, clrL x.c lj rj = v := ⟨_, rfl⟩
                have HKv := Lib.hid (show kn = ⟨bif v then ⟨yj, mj, hj', sj⟩ else withR ⟨yj, mj, hj', sj⟩ x.m0, lj, rj, true⟩ by rw [HKn.out, if_neg h2, if_neg h5, if_pos h3, ← hv])
                have HVv := Lib.hid hv
                clear h2 h5 h3 hkk a1 hv
                have HZ := Lib.hid (fun w' (jj : Below wr.heap.size wr w') => (⟨HI.out.1.look.below (by simp) jj, HXa.out w' (thru HI.out.1.low jj)⟩ : Lies w' b7 (rlrow ⟨⟨yj, mj, hj', sj⟩, lj, rj, false⟩ Aj nj cj) ∧ AtP w' (ad0.add (cc * 14)) x))
                go_upto_region 17 with fail
                refine HoldAll.wp_region_hold_all [.val (.slice (some ad0) m cL), .val (.int .i64 (cc : Int)), .val (.pointer (some (ad0.add (cc * 14)))), .val (.pointer (some ⟨(ad0.add (cc * 14)).block, (ad0.add (cc * 14)).off + 3, none⟩)), .val (.int .i64 x.c), .val (.agg #[.int .i64 yj, .slice Aj nj cj, .bool hj', .bool sj, .bool lj, .bool rj, .bool false]), .val (.bool v), .val (.bool ((!v)))] (by kernel_rfl) (by kernel_rfl) (by kernel_rfl) ?_ ?_
                · simp only [Hold.fill, Hold.Leave.value]
                  refine ⟨?_, ?_, ?_, ?_, ?_, ?_, ?_, ?_, trivial⟩
                  · intro gg w' hw hk
                    go_simp
                    exact ⟨rfl, rfl⟩
                  · intro gg w' hw hk
                    go_simp
                    exact ⟨rfl, rfl⟩
                  · intro gg w' hw hk
                    go_simp
                    exact ⟨rfl, rfl⟩
                  · intro gg w' hw hk
                    go_simp
                    exact ⟨rfl, rfl⟩
                  · intro gg w' hw hk
                    have q0 : w'.cell? ⟨(ad0.add (cc * 14)).block, (ad0.add (cc * 14)).off + 3, none⟩ = some (.int .i64 x.c) := (HZ.out w' hw).2.2.2.2.1
                    go_simp
                    exact ⟨rfl, rfl⟩
                  · intro gg w' hw hk
                    have q0 : w'.cell? ⟨b7, 0, none⟩ = some (.int .i64 yj) := ((HZ.out w' hw).1).at' 0
                    have q1 : w'.cell? ⟨b7, 1, none⟩ = some (.slice Aj nj cj) := ((HZ.out w' hw).1).at' 1
                    have q2 : w'.cell? ⟨b7, 2, none⟩ = some (.bool hj') := ((HZ.out w' hw).1).at' 2
                    have q3 : w'.cell? ⟨b7, 3, none⟩ = some (.bool sj) := ((HZ.out w' hw).1).at' 3
                    have q4 : w'.cell? ⟨b7, 4, none⟩ = some (.bool lj) := ((HZ.out w' hw).1).at' 4
                    have q5 : w'.cell? ⟨b7, 5, none⟩ = some (.bool rj) := ((HZ.out w' hw).1).at' 5
                    have q6 : w'.cell? ⟨b7, 6, none⟩ = some (.bool false) := ((HZ.out w' hw).1).at' 6
                    go_simp
                    exact ⟨rfl, rfl⟩
                  · intro gg w' hw hk
                    go_simp
                    exact Hold.stays_call (hrclears_is HXx.out.2.2 (k := ⟨⟨yj, mj, hj', sj⟩, lj, rj, false⟩) HVv.out Aj nj cj w')
                  · intro gg w' hw hk
                    go_simp
                    exact ⟨rfl, rfl⟩
                intro gg w5 k5 hgg
                clear hgg
                simp only [Hold.fill, Hold.Leave.value]
                have K5 := Lib.hid (⟨HI.out.1.below k5, HI.out.2.below k5⟩ : InSt w w5 b7 b ⟨⟨yj, mj, hj', sj⟩, lj, rj, false⟩ Aj nj cj ∧ Mine w5 (b7 + 3) (some g4) q c4' (ks.map Int.ofNat))
                clear k5 HZ
                go_simp
                cases v with
                | true =>
                  obtain ⟨c0, c1, c2, c3, c4, c5, c6⟩ := K5.out.1.cells.1
                  obtain ⟨f0, f1, f2, f3, f4, f5, f6⟩ := K5.out.1.cells.2.1
                  obtain ⟨o0, o1, o2, o3, o4, o5, o6⟩ := K5.out.1.cells.2.2.1
                  obtain ⟨g0, g1, g2, g3, g4', g5, g6⟩ := K5.out.1.cells.2.2.2
                  go_wp2_with fail
                  go_meet
                  refine ⟨rfl, Aj, nj, cj, Lib.hid ?_⟩
                  rw [HKv.out]
                  have sv := Save.set (w := w5) b7 6 (.bool true)
                  exact ⟨K5.out.1.onto HB.out.1 sv (K5.out.1.look.set 6 (.bool true) (by simp)) K5.out.1.mine, mine_save K5.out.2 sv fun j hj e => by have := (K5.out.2.lt j hj).1; omega⟩
                | false =>
                  have HZ := Lib.hid (fun w' (jj : Below w5.heap.size w5 w') => (⟨K5.out.1.look.below (by simp) jj, HXa.out w' (thru K5.out.1.low jj)⟩ : Lies w' b7 (rlrow ⟨⟨yj, mj, hj', sj⟩, lj, rj, false⟩ Aj nj cj) ∧ AtP w' (ad0.add (cc * 14)) x))
                  have hl9 : mj.length ≤ 1000 := by have h1 := HJ.out.1.2.2; have h2 := HJ.out.2.1; dsimp only at h1; omega
                  have HL9 := Lib.hid hl9
                  clear hl9
                  go_upto_region 18 with fail
                  refine Hold.wp_region_hold [.val (.pointer (some ⟨b7, 0, none⟩)), .val (.agg #[.int .i64 yj, .slice Aj nj cj, .bool hj', .bool sj]), .val (.slice (some ad0) m cL), .val (.int .i64 (cc : Int)), .val (.pointer (some (ad0.add (cc * 14)))), .val (.pointer (some ⟨(ad0.add (cc * 14)).block, (ad0.add (cc * 14)).off + 6, none⟩)), .val (.pointer (some ⟨(ad0.add (cc * 14)).block, (ad0.add (cc * 14)).off + 6, none⟩)), .val (.int .i64 x.m0), .some (GivenR (withR ⟨yj, mj, hj', sj⟩ x.m0) (b7 + 3))] (by kernel_rfl) (by kernel_rfl) (by kernel_rfl) ?_ ?_
                  · simp only [Hold.fill, Hold.Leave.value]
                    refine ⟨?_, ?_, ?_, ?_, ?_, ?_, ?_, ?_, ?_, trivial⟩
                    · intro gg w' hw hk
                      go_simp
                      exact ⟨rfl, rfl⟩
                    · intro gg w' hw hk
                      have q0 : w'.cell? ⟨b7, 0, none⟩ = some (.int .i64 yj) := ((HZ.out w' hw).1).at' 0
                      have q1 : w'.cell? ⟨b7, 1, none⟩ = some (.slice Aj nj cj) := ((HZ.out w' hw).1).at' 1
                      have q2 : w'.cell? ⟨b7, 2, none⟩ = some (.bool hj') := ((HZ.out w' hw).1).at' 2
                      have q3 : w'.cell? ⟨b7, 3, none⟩ = some (.bool sj) := ((HZ.out w' hw).1).at' 3
                      go_simp
                      exact ⟨rfl, rfl⟩
                    · intro gg w' hw hk
                      go_simp
                      exact ⟨rfl, rfl⟩
                    · intro gg w' hw hk
                      go_simp
                      exact ⟨rfl, rfl⟩
                    · intro gg w' hw hk
                      go_simp
                      exact ⟨rfl, rfl⟩
                    · intro gg w' hw hk
                      go_simp
                      exact ⟨rfl, rfl⟩
                    · intro gg w' hw hk
                      go_simp
                      exact ⟨rfl, rfl⟩
                    · intro gg w' hw hk
                      have q0 := (HZ.out w' hw).2.2.2.2.2.2.2.1
                      go_simp
                      exact ⟨rfl, rfl⟩
                    · refine ⟨given_keeps _ _, ?_⟩
                      intro gg w' hw hk
                      go_simp
                      exact Hold.gives_call (given_of (Nat.le_trans K5.out.1.box.lt hw.size) (grwith_any ⟨yj, mj, hj', sj⟩ Aj nj cj x.m0 w' (Mine.held (K5.out.1.mine.below hw)) HL9.out))
                  intro gg w6 k6 hgg
                  obtain ⟨A6, n6, c6', e8, hm8⟩ := hgg 8 _ rfl
                  clear hgg
                  simp only [Hold.fill, Hold.Leave.value, List.length_cons, List.length_nil, List.drop_succ_cons, List.drop_zero]
                  replace e8 : gg 8 = rpv (withR ⟨yj, mj, hj', sj⟩ x.m0) A6 n6 c6' := e8
                  have K6 := Lib.hid (⟨K5.out.1.below k6, K5.out.2.below k6, hm8⟩ : InSt w w6 b7 b ⟨⟨yj, mj, hj', sj⟩, lj, rj, false⟩ Aj nj cj ∧ Mine w6 (b7 + 3) (some g4) q c4' (ks.map Int.ofNat) ∧ Mine w6 (b7 + 3) A6 n6 c6' (mj ++ [x.m0]))
                  rw [e8]
                  clear e8 hm8 k6 HZ K5
                  obtain ⟨c0, c1, c2, c3, c4, c5, c6⟩ := K6.out.1.cells.1
                  obtain ⟨f0, f1, f2, f3, f4, f5, f6⟩ := K6.out.1.cells.2.1
                  obtain ⟨o0, o1, o2, o3, o4, o5, o6⟩ := K6.out.1.cells.2.2.1
                  obtain ⟨g0, g1, g2, g3, g4', g5, g6⟩ := K6.out.1.cells.2.2.2
                  go_simp
                  go_upto_region 19 with fail
                  generalize hU : World.setCell (World.setCell (World.setCell (World.setCell w6 _ _) _ _) _ _) _ _ = U
                  have zU : InSt w U b7 b ⟨⟨yj, mj ++ [x.m0], hj', sj⟩, lj, rj, false⟩ A6 n6 c6' ∧ Mine U (b7 + 3) (some g4) q c4' (ks.map Int.ofNat) := by
                    rw [← hU]
                    have sv := Save.four w6 b7 (.int .i64 yj) (.slice A6 n6 c6') (.bool hj') (.bool sj)
                    exact ⟨K6.out.1.onto HB.out.1 sv ((((K6.out.1.look.set 0 (.int .i64 yj) (by simp)).set 1 (.slice A6 n6 c6') (by simp)).set 2 (.bool hj') (by simp)).set 3 (.bool sj) (by simp)) K6.out.2.2, mine_save K6.out.2.1 sv fun j hj e => by have := (K6.out.2.1.lt j hj).1; omega⟩
                  have HU := Lib.hid zU
                  clear zU hU K6
                  clear c0 c1 c2 c3 c4 c5 c6 f0 f1 f2 f3 f4 f5 f6 o0 o1 o2 o3 o4 o5 o6 g0 g1 g2 g3 g4' g5 g6
                  obtain ⟨c0, c1, c2, c3, c4, c5, c6⟩ := HU.out.1.cells.1
                  obtain ⟨f0, f1, f2, f3, f4, f5, f6⟩ := HU.out.1.cells.2.1
                  obtain ⟨o0, o1, o2, o3, o4, o5, o6⟩ := HU.out.1.cells.2.2.1
                  obtain ⟨g0, g1, g2, g3, g4', g5, g6⟩ := HU.out.1.cells.2.2.2
                  go_wp2_with fail
                  go_meet
                  refine ⟨rfl, A6, n6, c6', Lib.hid ?_⟩
                  rw [HKv.out]
                  have sv := Save.set (w := U) b7 6 (.bool true)
                  exact ⟨HU.out.1.onto HB.out.1 sv (HU.out.1.look.set 6 (.bool true) (by simp)) HU.out.1.mine, mine_save HU.out.2 sv fun j hj e => by have := (HU.out.2.lt j hj).1; omega⟩
              · have hb2 : (x.k == 2) = false := by simp; omega
                have hb5 : (x.k == 5) = false := by simp; omega
                have hb3 : (x.k == 3) = false := by simp; omega
                have HKv := Lib.hid (show kn = pastF bs fs f cc ⟨⟨yj, mj, hj', sj⟩, lj, rj, false⟩ by rw [HKn.out, if_neg h2, if_neg h5, if_neg h3])
                clear h2 h5 h3 hkk a1
                have hpc := HPa.out cc ⟨⟨yj, mj, hj', sj⟩, lj, rj, false⟩ Aj nj cj (some ad0) cL AF cF tj wr HJ.out.2.2.2 HJ.out.2.2.1 rfl HJ.out.1 HJ.out.2.1 (Mine.held HI.out.1.mine) (HL.out.thru HI.out.1.low) (HF.out.thru HI.out.1.low)
                rw [HSl.out.2.2.2.2.1, ← HKv.out] at hpc
                have HPc := Lib.hid hpc
                clear hpc
                obtain ⟨c0, c1, c2, c3, c4, c5, c6⟩ := HI.out.1.cells.1
                obtain ⟨f0, f1, f2, f3, f4, f5, f6⟩ := HI.out.1.cells.2.1
                obtain ⟨o0, o1, o2, o3, o4, o5, o6⟩ := HI.out.1.cells.2.2.1
                obtain ⟨g0, g1, g2, g3, g4', g5, g6⟩ := HI.out.1.cells.2.2.2
                obtain ⟨⟨yn, mn, hn', sn⟩, ln, rn, en'⟩ := kn
                go_wp2_with (first
                  | (go_at_call 11; refine HPc.out.mono ?_; rintro e w5 ⟨⟨A6, n6, c6', rfl, hor⟩, k5⟩; have K5 := Lib.hid (⟨HI.out.1.below k5, HI.out.2.below k5, (hor_mine hor (HI.out.1.mine.below k5) HI.out.1.box.lt : Mine w5 (b7 + 3) A6 n6 c6' mn)⟩ : InSt w w5 b7 b ⟨⟨yj, mj, hj', sj⟩, lj, rj, false⟩ Aj nj cj ∧ Mine w5 (b7 + 3) (some g4) q c4' (ks.map Int.ofNat) ∧ Mine w5 (b7 + 3) A6 n6 c6' mn); clear hor k5 c0 c1 c2 c3 c4 c5 c6 f0 f1 f2 f3 f4 f5 f6; obtain ⟨c0, c1, c2, c3, c4, c5, c6⟩ := K5.out.1.cells.1; obtain ⟨f0, f1, f2, f3, f4, f5, f6⟩ := K5.out.1.cells.2.1))
                go_meet
                refine ⟨rfl, A6, n6, c6', Lib.hid ?_⟩
                have sv := save_seven w5 b7 (.int .i64 yn) (.slice A6 n6 c6') (.bool hn') (.bool sn) (.bool ln) (.bool rn) (.bool en')
                exact ⟨K5.out.1.onto HB.out.1 sv (lies_seven K5.out.1.look _ _ _ _ _ _ _) K5.out.2.2, mine_save K5.out.2.1 sv fun j hj e => by have := (K5.out.2.1.lt j hj).1; omega⟩
        case rest =>
        obtain ⟨rfl, A', n', c', H9⟩ := hcut
        clear HI HKn HXa HXx HJ
        obtain ⟨⟨yn, mn, hn', sn⟩, ln, rn, en'⟩ := kn
        obtain ⟨c0, c1, c2, c3, c4, c5, c6⟩ := H9.out.1.cells.1
        obtain ⟨f0, f1, f2, f3, f4, f5, f6⟩ := H9.out.1.cells.2.1
        obtain ⟨o0, o1, o2, o3, o4, o5, o6⟩ := H9.out.1.cells.2.2.1
        obtain ⟨g0, g1, g2, g3, g4', g5, g6⟩ := H9.out.1.cells.2.2.2
        cases en' with
        | true =>
          have hgt : G = ⟨⟨yn, mn, hn', sn⟩, ln, rn, true⟩ := by rw [HGR.out, ← HN.out.2]; rfl
          subst hgt
          go_wp2_with fail
          refine bodyPost_ret (v := rlv ⟨⟨yn, mn, hn', sn⟩, ln, rn, true⟩ A' n' c') (by simp [results, Tryz.results10, go_sem, o0, o1, o2, o3, o4, o5, o6]) rfl ?_
          have sv := save_seven wc (b7 + 1) (.int .i64 yn) (.slice A' n' c') (.bool hn') (.bool sn) (.bool ln) (.bool rn) (.bool true)
          refine ⟨⟨_, _, _, rfl, Mine.mono (mine_save H9.out.1.mine sv fun j hj e => by have := (H9.out.1.mine.lt j hj).1; omega) HB.out.2⟩, H9.out.1.low.trans (sv.blw (by have := HB.out.1; omega) H9.out.1.low.size)⟩
        | false =>
          have hgo := HN.out.2
          rw [if_neg (by simp)] at hgo
          have HGo := Lib.hid hgo
          clear hgo
          go_wp2_with fail
          go_roundw
          case rel => exact ⟨j + 1, ⟨⟨yn, mn, hn', sn⟩, ln, rn, false⟩, A', n', c', by omega, by go_num, Lib.hid ⟨H9.out.1, H9.out.2, rfl, HGo.out, _, _, HN.out.1.1, HN.out.1.2.1, HN.out.1.2.2.1, HN.out.1.2.2.2⟩⟩
          case measure => simp [intOf]; omega
      · obtain rfl : j = q := by omega
        have hre := H.out.2.2.2.1
        rw [List.drop_eq_nil_of_le (by rw [HQ.out]; exact Nat.le_refl _)] at hre
        have hkr : R = kj := hre.symm
        subst hkr
        have hej := H.out.2.2.1
        obtain ⟨⟨yj, mj, hj', sj⟩, lj, rj, ej⟩ := R
        dsimp only at hej
        subst hej
        have HI := Lib.hid H.out.1
        obtain ⟨-, -, -, -, -, x5, -, -, -, -, -, -, x12, -⟩ := HI.out.box
        clear H hre
        have hgt : G = ⟨⟨yj, mj, hj', sj⟩, lj, rj, decide (0 < b.e2) || decide (0 ≤ b.h)⟩ := by rw [HGR.out]; rfl
        have HGt := Lib.hid hgt
        clear hgt
        obtain ⟨c0, c1, c2, c3, c4, c5, c6⟩ := HI.out.cells.1
        obtain ⟨f0, f1, f2, f3, f4, f5, f6⟩ := HI.out.cells.2.1
        obtain ⟨o0, o1, o2, o3, o4, o5, o6⟩ := HI.out.cells.2.2.1
        obtain ⟨g0, g1, g2, g3, g4', g5, g6⟩ := HI.out.cells.2.2.2
        by_cases he2 : 0 < b.e2
        · skip
          have hgv : G = ⟨⟨yj, mj, hj', sj⟩, lj, rj, true⟩ := by rw [HGt.out, show (decide (0 < b.e2) || decide (0 ≤ b.h)) = true by simp; omega]
          subst hgv
          go_upto_region 24 with fail
          generalize hU : World.setCell _ _ _ = U
          have zU : InSt w U b7 b ⟨⟨yj, mj, hj', sj⟩, lj, rj, true⟩ Aj nj cj := by
            rw [← hU]
            exact HI.out.onto HB.out.1 (Save.set b7 6 _) (HI.out.look.set 6 (.bool true) (by simp)) HI.out.mine
          have HU := Lib.hid zU
          clear zU hU
          clear c0 c1 c2 c3 c4 c5 c6 f0 f1 f2 f3 f4 f5 f6 o0 o1 o2 o3 o4 o5 o6 g0 g1 g2 g3 g4' g5 g6
          obtain ⟨c0, c1, c2, c3, c4, c5, c6⟩ := HU.out.cells.1
          obtain ⟨f0, f1, f2, f3, f4, f5, f6⟩ := HU.out.cells.2.1
          obtain ⟨o0, o1, o2, o3, o4, o5, o6⟩ := HU.out.cells.2.2.1
          obtain ⟨g0, g1, g2, g3, g4', g5, g6⟩ := HU.out.cells.2.2.2
          go_wp2_with fail
          refine bodyPost_ret (v := rlv ⟨⟨yj, mj, hj', sj⟩, lj, rj, true⟩ Aj nj cj) (by simp [results, Tryz.results10, go_sem, o0, o1, o2, o3, o4, o5, o6]) rfl ?_
          have sv := save_seven U (b7 + 1) (.int .i64 yj) (.slice Aj nj cj) (.bool hj') (.bool sj) (.bool lj) (.bool rj) (.bool true)
          refine ⟨⟨_, _, _, rfl, Mine.mono (mine_save HU.out.mine sv fun j hj e => by have := (HU.out.mine.lt j hj).1; omega) HB.out.2⟩, HU.out.low.trans (sv.blw (by have := HB.out.1; omega) HU.out.low.size)⟩
        · by_cases hh0 : 0 ≤ b.h
          · skip
            have hgv : G = ⟨⟨yj, mj, hj', sj⟩, lj, rj, true⟩ := by rw [HGt.out, show (decide (0 < b.e2) || decide (0 ≤ b.h)) = true by simp; omega]
            subst hgv
            go_upto_region 24 with fail
            generalize hU : World.setCell _ _ _ = U
            have zU : InSt w U b7 b ⟨⟨yj, mj, hj', sj⟩, lj, rj, true⟩ Aj nj cj := by
              rw [← hU]
              exact HI.out.onto HB.out.1 (Save.set b7 6 _) (HI.out.look.set 6 (.bool true) (by simp)) HI.out.mine
            have HU := Lib.hid zU
            clear zU hU
            clear c0 c1 c2 c3 c4 c5 c6 f0 f1 f2 f3 f4 f5 f6 o0 o1 o2 o3 o4 o5 o6 g0 g1 g2 g3 g4' g5 g6
            obtain ⟨c0, c1, c2, c3, c4, c5, c6⟩ := HU.out.cells.1
            obtain ⟨f0, f1, f2, f3, f4, f5, f6⟩ := HU.out.cells.2.1
            obtain ⟨o0, o1, o2, o3, o4, o5, o6⟩ := HU.out.cells.2.2.1
            obtain ⟨g0, g1, g2, g3, g4', g5, g6⟩ := HU.out.cells.2.2.2
            go_wp2_with fail
            refine bodyPost_ret (v := rlv ⟨⟨yj, mj, hj', sj⟩, lj, rj, true⟩ Aj nj cj) (by simp [results, Tryz.results10, go_sem, o0, o1, o2, o3, o4, o5, o6]) rfl ?_
            have sv := save_seven U (b7 + 1) (.int .i64 yj) (.slice Aj nj cj) (.bool hj') (.bool sj) (.bool lj) (.bool rj) (.bool true)
            refine ⟨⟨_, _, _, rfl, Mine.mono (mine_save HU.out.mine sv fun j hj e => by have := (HU.out.mine.lt j hj).1; omega) HB.out.2⟩, HU.out.low.trans (sv.blw (by have := HB.out.1; omega) HU.out.low.size)⟩
          · skip
            have hgv : G = ⟨⟨yj, mj, hj', sj⟩, lj, rj, false⟩ := by rw [HGt.out, show (decide (0 < b.e2) || decide (0 ≤ b.h)) = false by simp; omega]
            subst hgv
            go_upto_region 24 with fail
            generalize hU : World.setCell _ _ _ = U
            have zU : InSt w U b7 b ⟨⟨yj, mj, hj', sj⟩, lj, rj, false⟩ Aj nj cj := by
              rw [← hU]
              exact HI.out.onto HB.out.1 (Save.set b7 6 _) (HI.out.look.set 6 (.bool false) (by simp)) HI.out.mine
            have HU := Lib.hid zU
            clear zU hU
            clear c0 c1 c2 c3 c4 c5 c6 f0 f1 f2 f3 f4 f5 f6 o0 o1 o2 o3 o4 o5 o6 g0 g1 g2 g3 g4' g5 g6
            obtain ⟨c0, c1, c2, c3, c4, c5, c6⟩ := HU.out.cells.1
            obtain ⟨f0, f1, f2, f3, f4, f5, f6⟩ := HU.out.cells.2.1
            obtain ⟨o0, o1, o2, o3, o4, o5, o6⟩ := HU.out.cells.2.2.1
            obtain ⟨g0, g1, g2, g3, g4', g5, g6⟩ := HU.out.cells.2.2.2
            go_wp2_with fail
            refine bodyPost_ret (v := rlv ⟨⟨yj, mj, hj', sj⟩, lj, rj, false⟩ Aj nj cj) (by simp [results, Tryz.results10, go_sem, o0, o1, o2, o3, o4, o5, o6]) rfl ?_
            have sv := save_seven U (b7 + 1) (.int .i64 yj) (.slice Aj nj cj) (.bool hj') (.bool sj) (.bool lj) (.bool rj) (.bool false)
            refine ⟨⟨_, _, _, rfl, Mine.mono (mine_save HU.out.mine sv fun j hj e => by have := (HU.out.mine.lt j hj).1; omega) HB.out.2⟩, HU.out.low.trans (sv.blw (by have := HB.out.1; omega) HU.out.low.size)⟩

end Go.Proofs.YtfomhdhiibcdfaaGreat.Ahead
