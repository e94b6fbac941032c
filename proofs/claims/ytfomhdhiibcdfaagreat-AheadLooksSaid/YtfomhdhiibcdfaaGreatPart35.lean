/- Texts of this proof that follow each other, in one file. -/
import Derived.Test.YtfomhdhiibcdfaaGreatPart34
import Derived.Test.YtfomhdhiibcdfaaGreatPart29
/-! A whole tree in memory; the contract of Children. -/
namespace Go.Proofs.YtfomhdhiibcdfaaGreat.Tree
open Go.RowKit Go.Sort Go.Proofs.YtfomhdhiibcdfaaGreat.Record Go.Proofs.YtfomhdhiibcdfaaGreat.Script Go.Proofs.YtfomhdhiibcdfaaGreat.More

def endsOf (bs : List Bx) (j : Nat) : Int := (en (dOf bs) bs.length j : Int)

/-- The nodes of a tree. -/
def nodesOf (bs : List Bx) : List Nd := nodesE bs (endsOf bs) bs.length

/-- A tree of boxes that lies somewhere. -/
def InTree (w : World) (p : Addr) (bs : List Bx) : Prop :=
  ∃ g A c, p = ⟨g, 0, none⟩ ∧ 0 < bs.length ∧ bs.length ≤ 1000 ∧ Fine bs bs.length ∧ InT w 0 g A c (nodesOf bs)

theorem InTree.below {w w' : World} {p : Addr} {bs : List Bx} (h : InTree w p bs) (k : Below w.heap.size w w') : InTree w' p bs := by
  obtain ⟨g, A, c, e, h0, h1, h2, h3⟩ := h
  exact ⟨g, A, c, e, h0, h1, h2, h3.below k⟩

theorem nodesOf_len (bs : List Bx) : (nodesOf bs).length = bs.length := nodesE_len _ _ _

theorem nodeAt_in {bs : List Bx} {k : Nat} (h : k < bs.length) : nodeAt (nodesOf bs) (k : Int) = ⟨bs.getD k noB, par (dOf bs) k, endsOf bs k, (ctx (dOf bs) (oOf bs) k : Int)⟩ := by
  unfold nodeAt
  rw [if_pos ⟨by omega, by rw [nodesOf_len]; omega⟩, Int.toNat_natCast]
  exact nodesE_at bs _ h

theorem nodeAt_out {bs : List Bx} {i : Int} (h : ¬ hasT bs i) : nodeAt (nodesOf bs) i = noN := by
  unfold nodeAt
  rw [if_neg]
  rw [nodesOf_len]
  exact h

theorem nodeAt_is (bs : List Bx) (i : Int) : nodeAt (nodesOf bs) i = ⟨boxT bs i, parT bs i, enT bs i, ctxT bs i⟩ := by
  by_cases h : hasT bs i
  · obtain ⟨k, rfl⟩ : ∃ k : Nat, i = k := ⟨i.toNat, by have := h.1; omega⟩
    have hk : k < bs.length := by have := h.2; omega
    rw [nodeAt_in hk, boxT_nat hk, parT_nat hk, enT_nat hk, ctxT_nat hk]
    rfl
  · rw [nodeAt_out h]
    unfold boxT parT enT ctxT
    rw [if_neg h, if_neg h, if_neg h, if_neg h]
    rfl

theorem kidsTo_skip (d : Nat → Int) (i a : Nat) : ∀ b, a ≤ b → (∀ j, a ≤ j → j < b → d j ≠ d i + 1) → kidsTo d i b = kidsTo d i a
  | 0, h, _ => by obtain rfl : a = 0 := by omega
                  rfl
  | b + 1, h, hm => by
    by_cases e : a = b + 1
    · rw [e]
    · rw [kidsTo_next, if_neg (fun h => hm b (by omega) (by omega) h.2), List.append_nil]
      exact kidsTo_skip d i a b (by omega) (fun j x y => hm j x (by omega))

/-- From one that stands in i to the next one. -/
theorem kids_step {d : Nat → Int} {n i m : Nat} (hi : i < n) (him : i < m) (hm : m < en d n i) (hd : d m = d i + 1) :
    m < en d n m ∧ en d n m ≤ en d n i ∧ kidsTo d i (en d n m) = kidsTo d i m ++ [m] ∧ (en d n m < en d n i → d (en d n m) = d i + 1) := by
  obtain ⟨e1, e2, e3, e4⟩ := en_spec d n i hi
  obtain ⟨g1, g2, g3, g4⟩ := en_spec d n m (by omega)
  have g5 := en_nest d n i m hi him hm
  refine ⟨g1, g5, ?_, fun h => ?_⟩
  · rw [kidsTo_skip d i (m + 1) (en d n m) (by omega) (fun j x y => by have := g3 j (by omega) y; omega), kidsTo_next, if_pos ⟨him, hd⟩]
  · have h1 := e3 (en d n m) (by omega) h
    rcases g4 with g4 | g4 <;> omega

theorem kids_first {d : Nat → Int} {n i : Nat} (hs : Shape d n) (hi : i < n) (h : i + 1 < en d n i) : d (i + 1) = d i + 1 := by
  obtain ⟨e1, e2, e3, e4⟩ := en_spec d n i hi
  have h1 := e3 (i + 1) (by omega) h
  have h2 := hs.step (i + 1) (by omega) (by omega)
  rw [Nat.add_sub_cancel] at h2
  omega

end Go.Proofs.YtfomhdhiibcdfaaGreat.Tree

/-! The program's look: how it ends; which clears clear sides; where all lies in a looker's functions. -/
namespace Go.Proofs.YtfomhdhiibcdfaaGreat.Ahead
open Go.RowKit Go.Sort Go.Proofs.YtfomhdhiibcdfaaGreat.More Go.Proofs.YtfomhdhiibcdfaaGreat.Record Go.Proofs.YtfomhdhiibcdfaaGreat.Script Go.Proofs.YtfomhdhiibcdfaaGreat.Tree Go.Proofs.YtfomhdhiibcdfaaGreat.Shelf Go.Proofs.YtfomhdhiibcdfaaGreat.Space Go.Proofs.YtfomhdhiibcdfaaGreat.Spot
set_option linter.unusedVariables false
set_option linter.unusedSimpArgs false

set_option maxHeartbeats 400000 in
theorem lend_any (x : Sp) (d : Int) (e : Bool) (w : World) :
    Calls Tryz.prog 46 #[lpv x d e] w fun r w' => r = .returned (lpv x d true) ∧ Below w.heap.size w w' := by
  obtain ⟨y, p, q, h, s⟩ := x
  go_enter Tryz.func46, Tryz.ntmps46
  go_upto_region 1 with fail
  generalize hW : World.alloc (World.alloc _ _) _ = W
  have L3 := two_news w 42 42 (lprow ⟨y, p, q, h, s⟩ d e) zeroLp (by simp)
  obtain ⟨b0, hb0⟩ : ∃ b0, w.heap.size = b0 := ⟨_, rfl⟩
  replace L3 := (show Lies W b0 (lprow ⟨y, p, q, h, s⟩ d e) ∧ Lies W (b0 + 1) zeroLp ∧ Below w.heap.size w W by rw [← hW, ← hb0]; exact L3)
  have HB := Lib.hid (Nat.le_of_eq hb0)
  rw [hb0]
  clear hW hb0
  obtain ⟨c0, c1, c2, c3, c4, c5, c6⟩ := lpat_of L3.1
  obtain ⟨f0, f1, f2, f3, f4, f5, f6⟩ := lkfr_of L3.1
  obtain ⟨o0, o1, o2, o3, o4, o5, o6⟩ := lpat_of (x := zeroSp) (d := 0) (e := false) L3.2.1
  obtain ⟨g0, g1, g2, g3, g4, g5, g6⟩ := lkfr_of L3.2.1
  have K3 := Lib.hid L3.2.2
  clear L3
  go_wp2_with fail
  refine bodyPost_ret (v := lpv ⟨y, p, q, h, s⟩ d true) (by simp [results, Tryz.results46, go_sem, o0, o1, o2, o3, o4, o5, o6]) rfl ⟨rfl, ?_⟩
  have hle := HB.out
  repeat refine Below.setCell ?_ (by simp <;> omega) _
  exact K3.out

theorem and_bits {c d : Int} (hc : 0 ≤ c ∧ c ≤ 3) (hd : 0 ≤ d ∧ d ≤ 3) : (bits BinOp.and IntKind.i64 c d != 0) = clrL c (d == 1 || d == 3) (d == 2 || d == 3) := by
  obtain rfl | rfl | rfl | rfl : c = 0 ∨ c = 1 ∨ c = 2 ∨ c = 3 := by omega
  all_goals obtain rfl | rfl | rfl | rfl : d = 0 ∨ d = 1 ∨ d = 2 ∨ d = 3 := by omega
  all_goals rfl

set_option maxHeartbeats 400000 in
theorem aclears_any (c d : Int) (w : World) (hc : 0 ≤ c ∧ c ≤ 3) (hd : 0 ≤ d ∧ d ≤ 3) :
    Calls Tryz.prog 47 #[.int .i64 c, .int .i64 d] w fun r w' => r = .returned (.bool (clrL c (d == 1 || d == 3) (d == 2 || d == 3))) ∧ Below w.heap.size w w' := by
  obtain ⟨v, hv⟩ : ∃ v, clrL c (d == 1 || d == 3) (d == 2 || d == 3) = v := ⟨_, rfl⟩
  have hz := and_bits hc hd
  rw [hv] at hz ⊢
  obtain ⟨z, hz0⟩ : ∃ z, bits BinOp.and IntKind.i64 c d = z := ⟨_, rfl⟩
  rw [hz0] at hz
  clear hv
  go_enter Tryz.func47, Tryz.ntmps47
  go_wp2_with fail
  go_ret
  exact ⟨by simp [← hz], Below.refl _ _⟩

theorem clr_sides (c : Int) (l r : Bool) : clrL c (sidesI l r == 1 || sidesI l r == 3) (sidesI l r == 2 || sidesI l r == 3) = clrL c l r := by
  cases l <;> cases r <;> rfl
theorem sides_b (l r : Bool) : 0 ≤ sidesI l r ∧ sidesI l r ≤ 3 := by cases l <;> cases r <;> decide
theorem or_sides (l r : Bool) {s : Int} (hs : s = 1 ∨ s = 2) : bits BinOp.or IntKind.i64 (sidesI l r) s = sidesI (l || s == 1) (r || s == 2) := by
  rcases hs with rfl | rfl <;> cases l <;> cases r <;> rfl

/-- Clears of a look's own sides. -/
theorem aclears_is {c : Int} {l r v : Bool} {d : Int} (hc : 0 ≤ c ∧ c ≤ 3) (hd : sidesI l r = d) (hv : clrL c l r = v) (w : World) :
    Calls Tryz.prog 47 #[.int .i64 c, .int .i64 d] w fun r w' => r = .returned (.bool v) ∧ Below w.heap.size w w' := by
  subst hd hv
  have := aclears_any c (sidesI l r) w hc (sides_b l r)
  rwa [clr_sides] at this

theorem three_news (w : World) (T1 T2 T3 : TypeId) (xs ys zs : List Value) (hx : 0 < xs.length) (hy : 0 < ys.length) :
    Lies (((w.alloc (.cells xs.toArray T1)).alloc (.cells ys.toArray T2)).alloc (.cells zs.toArray T3)) w.heap.size xs ∧ Lies (((w.alloc (.cells xs.toArray T1)).alloc (.cells ys.toArray T2)).alloc (.cells zs.toArray T3)) (w.heap.size + 1) ys ∧
    Lies (((w.alloc (.cells xs.toArray T1)).alloc (.cells ys.toArray T2)).alloc (.cells zs.toArray T3)) (w.heap.size + 2) zs ∧ Below w.heap.size w (((w.alloc (.cells xs.toArray T1)).alloc (.cells ys.toArray T2)).alloc (.cells zs.toArray T3)) ∧
    (((w.alloc (.cells xs.toArray T1)).alloc (.cells ys.toArray T2)).alloc (.cells zs.toArray T3)).heap.size = w.heap.size + 3 := by
  obtain ⟨h1, h2, h3⟩ := two_news w T1 T2 xs ys hx
  have m := Lies.new ((w.alloc (.cells xs.toArray T1)).alloc (.cells ys.toArray T2)) zs T3
  rw [show ((w.alloc (.cells xs.toArray T1)).alloc (.cells ys.toArray T2)).heap.size = w.heap.size + 2 by simp] at m
  exact ⟨h1.below hx (ba1 _ _), h2.below hy (ba1 _ _), m, thru h3 (ba1 _ _), by simp⟩

/-- How all lies in a looker's functions: the looker, its look, what will be handed back. -/
structure PSt (w wx : World) (b0 : Nat) (pt ps : Addr) (x : Sp) (d : Int) (e : Bool) : Prop where
  low : Below w.heap.size w wx
  me : Lies wx b0 [.pointer (some pt), .pointer (some ps)]
  look : Lies wx (b0 + 1) (lprow x d e)
  out : Lies wx (b0 + 2) zeroLp

theorem PSt.below {w wx wy : World} {b0 : Nat} {pt ps : Addr} {x : Sp} {d : Int} {e : Bool} (h : PSt w wx b0 pt ps x d e) (j : Below wx.heap.size wx wy) : PSt w wy b0 pt ps x d e :=
  ⟨thru h.low j, h.me.below (by simp) j, h.look.below (by simp) j, h.out.below (by simp) j⟩
/-- The look is written anew. -/
theorem PSt.onto {w wx wy : World} {b0 : Nat} {pt ps : Addr} {x x' : Sp} {d d' : Int} {e e' : Bool} (h : PSt w wx b0 pt ps x d e) (hb : w.heap.size ≤ b0) (sv : Save (fun j => j = b0 + 1) wx wy) (hl : Lies wy (b0 + 1) (lprow x' d' e')) : PSt w wy b0 pt ps x' d' e' :=
  ⟨h.low.trans (sv.blw (by omega) h.low.size), h.me.save (by simp) sv (show ¬ b0 = b0 + 1 by omega), hl, h.out.save (by simp) sv (show ¬ b0 + 2 = b0 + 1 by omega)⟩
/-- Something behind is written. -/
theorem PSt.other {w wx wy : World} {b0 g : Nat} {pt ps : Addr} {x : Sp} {d : Int} {e : Bool} (h : PSt w wx b0 pt ps x d e) (hb : w.heap.size ≤ b0) (sv : Save (fun j => j = g) wx wy) (hg : b0 + 3 ≤ g) : PSt w wy b0 pt ps x d e :=
  ⟨h.low.trans (sv.blw (by omega) h.low.size), h.me.save (by simp) sv (show ¬ b0 = g by omega), h.look.save (by simp) sv (show ¬ b0 + 1 = g by omega), h.out.save (by simp) sv (show ¬ b0 + 2 = g by omega)⟩
theorem PSt.cells {w wx : World} {b0 : Nat} {pt ps : Addr} {x : Sp} {d : Int} {e : Bool} (h : PSt w wx b0 pt ps x d e) : LpAt wx (b0 + 1) x d e ∧ LkFr wx (b0 + 1) ∧ LpAt wx (b0 + 2) zeroSp 0 false ∧ LkFr wx (b0 + 2) ∧
    wx.cell? ⟨b0, 0, none⟩ = some (.pointer (some pt)) ∧ wx.cell? ⟨b0, 1, none⟩ = some (.pointer (some ps)) :=
  ⟨lpat_of h.look, lkfr_of h.look, lpat_of (x := zeroSp) (d := 0) (e := false) h.out, lkfr_of h.out, h.me.at' 0, h.me.at' 1⟩
theorem PSt.lt {w wx : World} {b0 : Nat} {pt ps : Addr} {x : Sp} {d : Int} {e : Bool} (h : PSt w wx b0 pt ps x d e) : b0 + 3 ≤ wx.heap.size := h.out.lt (by simp)

/-- A box in a block of its own, when something else is written. -/
theorem at_other {w w' : World} {g b : Nat} {x : Bx} (h : At w g x) (sv : Save (fun j => j = b) w w') (hg : g ≠ b) : At w' g x := by
  have e : ∀ o, w'.cell? ⟨g, o, none⟩ = w.cell? ⟨g, o, none⟩ := fun o => World.cell?_of_block (a := ⟨g, o, none⟩) (sv.block _ h.lt hg)
  unfold At at *
  simp only [e]
  exact h

theorem keepSp {S : World → (Nat → Prop) → Addr → List Fl → Prop} (hS : SpaceOk S) {w w' : World} {F : Nat → Prop} {p : Addr} {fs : List Fl} (h : S w F p fs) (k : Below w.heap.size w w') : S w' F p fs :=
  hS.keep _ _ _ _ _ _ h (But.of_below (S := fun _ => False) k) (fun _ _ h => h)

end Go.Proofs.YtfomhdhiibcdfaaGreat.Ahead

/-! Through one of those that stand in a box. -/
namespace Go.Proofs.YtfomhdhiibcdfaaGreat.Ahead
open Go.RowKit Go.Sort Go.Proofs.YtfomhdhiibcdfaaGreat.More Go.Proofs.YtfomhdhiibcdfaaGreat.Record Go.Proofs.YtfomhdhiibcdfaaGreat.Script Go.Proofs.YtfomhdhiibcdfaaGreat.Tree Go.Proofs.YtfomhdhiibcdfaaGreat.Shelf Go.Proofs.YtfomhdhiibcdfaaGreat.Space Go.Proofs.YtfomhdhiibcdfaaGreat.Spot
set_option linter.unusedVariables false
set_option linter.unusedSimpArgs false

set_option maxRecDepth 100000 in
set_option maxHeartbeats 2000000 in
theorem hthrough_any {T : World → Addr → List Bx → Prop} {S : World → (Nat → Prop) → Addr → List Fl → Prop} (hT : TreeOk T) (hS : SpaceOk S) (pt ps : Addr) (bs : List Bx) (past : Nat → Rl → Rl) (i : Nat) (k : Rl) (w : World) (hi : i < bs.length) (hW : Wood bs) (hke : k.e = false) (ht : T w pt bs)
    (hP : ∀ w', Below w.heap.size w w' → Calls Tryz.prog 24 #[.agg #[.pointer (some pt), .pointer (some ps)], .int .i64 (i : Int), k.pv] w' fun r w'' => r = .returned (past i k).pv ∧ Below w'.heap.size w' w'') :
    Calls Tryz.prog 63 #[.agg #[.pointer (some pt), .pointer (some ps)], .int .i64 (i : Int), k.pv] w fun r w' => r = .returned (stepK bs past i k).pv ∧ Below w.heap.size w w' := by
  obtain ⟨⟨y, p, q, h, s⟩, hx⟩ : ∃ x, k.x.sp = x := ⟨_, rfl⟩
  obtain ⟨D, hD⟩ : ∃ D, sidesI k.l k.r = D := ⟨_, rfl⟩
  obtain ⟨b, hb⟩ : ∃ b, bs.getD i noB = b := ⟨_, rfl⟩
  have hpv : k.pv = lpv ⟨y, p, q, h, s⟩ D false := by unfold Rl.pv; rw [hx, hD, hke]
  have hbox := fun w' (j : Below w.heap.size w w') => hT.box w' pt bs (i : Int) (hT.keep _ _ _ _ ht j)
  rw [boxT_nat hi, hb] at hbox
  have HBox := Lib.hid hbox
  have hclr := hW.clr i hi
  rw [hb] at hclr
  have HClr := Lib.hid hclr
  clear hbox hclr
  rw [hpv] at hP ⊢
  have HPa := Lib.hid hP
  obtain ⟨R, hR⟩ : ∃ R, stepK bs past i k = R := ⟨_, rfl⟩
  rw [hR]
  have hs2 := hW.side i hi
  rw [hb] at hs2
  have H2 := Lib.hid (show b.k = 2 → bits BinOp.or IntKind.i64 D b.s = sidesI (k.l || b.s == 1) (k.r || b.s == 2) ∧ R.pv = lpv ⟨y, p, q, h, s⟩ (sidesI (k.l || b.s == 1) (k.r || b.s == 2)) false from fun h => ⟨by rw [← hD]; exact or_sides k.l k.r (hs2 h), by
    rw [← hR]; unfold stepK; rw [hb, if_pos h]; unfold Rl.pv; dsimp only; rw [hx, hke]⟩)
  have H5 := Lib.hid (show b.k = 5 → R.pv = lpv ⟨y, p, q, h, s⟩ D true from fun h => by
    rw [← hR]; unfold stepK; rw [hb, if_neg (by omega), if_pos h]; unfold Rl.pv; dsimp only; rw [hx, hD])
  have H3 := Lib.hid (show b.k = 3 → ∀ v, clrL b.c k.l k.r = v → R.pv = lpv (bif v then ⟨y, p, q, h, s⟩ else withS ⟨y, p, q, h, s⟩ b.m0) D true from fun h v hv => by
    rw [← hR]; unfold stepK; rw [hb, if_neg (by omega), if_neg (by omega), if_pos h, hv]; unfold Rl.pv; dsimp only; rw [hD]
    cases v
    · show lpv (withR k.x b.m0).sp D true = _
      rw [withR_sp, hx]; rfl
    · show lpv k.x.sp D true = _
      rw [hx]; rfl)
  have H0 := Lib.hid (show ¬ b.k = 2 → ¬ b.k = 5 → ¬ b.k = 3 → past i k = R from fun h h' h'' => by
    rw [← hR]; unfold stepK; rw [hb, if_neg h, if_neg h', if_neg h''])
  have HD := Lib.hid hD
  clear hP hR hs2 hW hke ht hb hpv hx hD hi
  go_enter Tryz.func63, Tryz.ntmps63
  go_upto_region 1 with fail
  generalize hW1 : World.alloc (World.alloc (World.alloc _ _) _) _ = W
  have L3 := three_news w 70 42 42 [.pointer (some pt), .pointer (some ps)] (lprow ⟨y, p, q, h, s⟩ D false) zeroLp (by simp) (by simp)
  obtain ⟨b0, hb0⟩ : ∃ b0, w.heap.size = b0 := ⟨_, rfl⟩
  replace L3 := (show PSt w W b0 pt ps ⟨y, p, q, h, s⟩ D false by rw [← hW1, ← hb0]; exact ⟨L3.2.2.2.1, L3.1, L3.2.1, L3.2.2.1⟩)
  have HB := Lib.hid (Nat.le_of_eq hb0)
  have K1 := Lib.hid L3
  rw [hb0]
  clear hW1 L3 hb0
  obtain ⟨m0, m1⟩ := (show _ ∧ _ from K1.out.cells.2.2.2.2)
  go_upto_region 2 with (first
    | (go_at_call 43; refine (HBox.out W K1.out.low).mono ?_; rintro r1 w1 ⟨rfl, k1⟩; have KB := Lib.hid (K1.out.below k1); clear k1))
  clear m0 m1
  generalize hW2 : World.alloc w1 _ = V
  obtain ⟨g, hg⟩ : ∃ g, w1.heap.size = g := ⟨_, rfl⟩
  have k2 : Below w1.heap.size w1 V := by rw [← hW2]; exact ba1 _ _
  have z9 : At V g b := by rw [← hW2, ← hg]; exact At.of_block (heap_alloc_new w1 _)
  rw [hg]
  have HG := Lib.hid (show b0 + 3 ≤ g by rw [← hg]; exact KB.out.lt)
  have K2 := Lib.hid (⟨KB.out.below k2, z9⟩ : PSt w V b0 pt ps ⟨y, p, q, h, s⟩ D false ∧ At V g b)
  clear hW2 hg k2 z9 KB K1
  obtain ⟨-, x1, x2, x3, -, -, x6, -⟩ := K2.out.2
  obtain ⟨⟨c0, c1, c2, c3, c4, c5, c6⟩, ⟨f0, f1, f2, f3, f4, f5, f6⟩, ⟨o0, o1, o2, o3, o4, o5, o6⟩, ⟨g0, g1, g2, g3, g4, g5, g6⟩, m0, m1⟩ := K2.out.1.cells
  by_cases hk2 : b.k = 2
  · obtain ⟨hO, hr⟩ := H2.out hk2
    obtain ⟨D2, hD2⟩ : ∃ D2, sidesI (k.l || b.s == 1) (k.r || b.s == 2) = D2 := ⟨_, rfl⟩
    rw [hD2] at hO hr
    have hb2 : (b.k == 2) = true := by simp [hk2]
    have HR := Lib.hid hr
    clear hk2 hD2 hr
    go_wp2_with fail
    refine bodyPost_ret (v := lpv ⟨y, p, q, h, s⟩ D2 false) (by simp [results, Tryz.results63, go_sem, o0, o1, o2, o3, o4, o5, o6]) rfl ⟨by rw [HR.out], ?_⟩
    have hle := HB.out
    repeat refine Below.setCell ?_ (by simp <;> omega) _
    exact K2.out.1.low
  have hb2 : (b.k == 2) = false := by simp [hk2]
  by_cases hk5 : b.k = 5
  · have hr := H5.out hk5
    have hb5 : (b.k == 5) = true := by simp [hk5]
    have HR := Lib.hid hr
    clear hk2 hk5 hr
    go_wp2_with (first
      | (go_at_call 46; refine (lend_any ⟨y, p, q, h, s⟩ D false V).mono ?_; rintro r3 w3 ⟨rfl, k3⟩; have K3 := Lib.hid (K2.out.1.below k3); clear c0 c1 c2 c3 c4 c5 c6 f0 f1 f2 f3 f4 f5 f6 o0 o1 o2 o3 o4 o5 o6 g0 g1 g2 g3 g4 g5 g6 m0 m1 x1 x2 x3 x6; obtain ⟨-, -, ⟨o0, o1, o2, o3, o4, o5, o6⟩, ⟨g0, g1, g2, g3, g4, g5, g6⟩, -, -⟩ := K3.out.cells))
    refine bodyPost_ret (v := lpv ⟨y, p, q, h, s⟩ D true) (by simp [results, Tryz.results63, go_sem, o0, o1, o2, o3, o4, o5, o6]) rfl ⟨by rw [HR.out], ?_⟩
    have hle := HB.out
    repeat refine Below.setCell ?_ (by simp <;> omega) _
    exact K3.out.low
  have hb5 : (b.k == 5) = false := by simp [hk5]
  by_cases hk3 : b.k = 3
  · obtain ⟨v, hv⟩ : ∃ v, clrL b.c k.l k.r = v := ⟨_, rfl⟩
    have hr := H3.out hk3 v hv
    have hb3 : (b.k == 3) = true := by simp [hk3]
    have HV := Lib.hid hv
    clear hk2 hk5 hk3 hv
    cases v with
    | true =>
      have HR := Lib.hid (show R.pv = lpv ⟨y, p, q, h, s⟩ D true from hr)
      clear hr
      go_wp2_with (first
        | (go_at_call 47; refine (aclears_is HClr.out HD.out HV.out V).mono ?_; rintro r3 w3 ⟨rfl, k3⟩; have K3 := Lib.hid (⟨K2.out.1.below k3, K2.out.2.below K2.out.2.lt k3⟩ : PSt w w3 b0 pt ps ⟨y, p, q, h, s⟩ D false ∧ At w3 g b); clear c0 c1 c2 c3 c4 c5 c6 f0 f1 f2 f3 f4 f5 f6 o0 o1 o2 o3 o4 o5 o6 g0 g1 g2 g3 g4 g5 g6 m0 m1 x1 x2 x3 x6; obtain ⟨⟨c0, c1, c2, c3, c4, c5, c6⟩, -, -, -, -, -⟩ := K3.out.1.cells)
        | (go_at_call 46; refine (lend_any ⟨y, p, q, h, s⟩ D false w3).mono ?_; rintro r4 w4 ⟨rfl, k4⟩; have K4 := Lib.hid (K3.out.1.below k4); clear c0 c1 c2 c3 c4 c5 c6; obtain ⟨-, -, ⟨o0, o1, o2, o3, o4, o5, o6⟩, ⟨g0, g1, g2, g3, g4, g5, g6⟩, -, -⟩ := K4.out.cells))
      refine bodyPost_ret (v := lpv ⟨y, p, q, h, s⟩ D true) (by simp [results, Tryz.results63, go_sem, o0, o1, o2, o3, o4, o5, o6]) rfl ⟨by rw [HR.out], ?_⟩
      have hle := HB.out
      repeat refine Below.setCell ?_ (by simp <;> omega) _
      exact K4.out.low
    | false =>
      obtain ⟨⟨y1, p1, q1, h1, s1⟩, hw1⟩ : ∃ z, withS ⟨y, p, q, h, s⟩ b.m0 = z := ⟨_, rfl⟩
      simp only [cond_false] at hr
      rw [hw1] at hr
      have HR := Lib.hid hr
      have HW1 := Lib.hid hw1
      clear hw1 hr
      go_upto_region 11 with (first
        | (go_at_call 47; refine (aclears_is HClr.out HD.out HV.out V).mono ?_; rintro r3 w3 ⟨rfl, k3⟩; have K3 := Lib.hid (⟨K2.out.1.below k3, K2.out.2.below K2.out.2.lt k3⟩ : PSt w w3 b0 pt ps ⟨y, p, q, h, s⟩ D false ∧ At w3 g b); clear c0 c1 c2 c3 c4 c5 c6 f0 f1 f2 f3 f4 f5 f6 o0 o1 o2 o3 o4 o5 o6 g0 g1 g2 g3 g4 g5 g6 m0 m1 x1 x2 x3 x6; obtain ⟨⟨c0, c1, c2, c3, c4, c5, c6⟩, -, -, -, -, -⟩ := K3.out.1.cells; obtain ⟨-, -, -, -, -, -, x6, -⟩ := K3.out.2)
        | (go_at_call 44; refine (gwith_is HW1.out w3).mono ?_; rintro r4 w4 ⟨rfl, k4⟩; have K4 := Lib.hid (K3.out.1.below k4); clear c0 c1 c2 c3 c4 c5 c6 x6; obtain ⟨⟨c0, c1, c2, c3, c4, c5, c6⟩, ⟨f0, f1, f2, f3, f4, f5, f6⟩, -, -, -, -⟩ := K4.out.cells))
      generalize hU : World.setCell (World.setCell (World.setCell (World.setCell (World.setCell w4 _ _) _ _) _ _) _ _) _ _ = U
      have zU : PSt w U b0 pt ps ⟨y1, p1, q1, h1, s1⟩ D false := by
        rw [← hU]
        exact K4.out.onto HB.out (Save.five _ _ _ _ _ _ _) (((((K4.out.look.set 0 _ (by simp)).set 1 _ (by simp)).set 2 _ (by simp)).set 3 _ (by simp)).set 4 _ (by simp))
      have KU := Lib.hid zU
      clear zU hU K4 c0 c1 c2 c3 c4 c5 c6 f0 f1 f2 f3 f4 f5 f6
      obtain ⟨⟨c0, c1, c2, c3, c4, c5, c6⟩, -, -, -, -, -⟩ := KU.out.cells
      go_wp2_with (first
        | (go_at_call 46; refine (lend_any ⟨y1, p1, q1, h1, s1⟩ D false U).mono ?_; rintro r5 w5 ⟨rfl, k5⟩; have K5 := Lib.hid (KU.out.below k5); clear c0 c1 c2 c3 c4 c5 c6; obtain ⟨-, -, ⟨o0, o1, o2, o3, o4, o5, o6⟩, ⟨g0, g1, g2, g3, g4, g5, g6⟩, -, -⟩ := K5.out.cells))
      refine bodyPost_ret (v := lpv ⟨y1, p1, q1, h1, s1⟩ D true) (by simp [results, Tryz.results63, go_sem, o0, o1, o2, o3, o4, o5, o6]) rfl ⟨by rw [HR.out], ?_⟩
      have hle := HB.out
      repeat refine Below.setCell ?_ (by simp <;> omega) _
      exact K5.out.low
  have hb3 : (b.k == 3) = false := by simp [hk3]
  have hr := H0.out hk2 hk5 hk3
  rw [hr] at HPa
  clear hk2 hk5 hk3 hr
  obtain ⟨⟨y1, p1, q1, h1, s1⟩, hx1⟩ : ∃ x, R.x.sp = x := ⟨_, rfl⟩
  obtain ⟨d1, hd1⟩ : ∃ d, sidesI R.l R.r = d := ⟨_, rfl⟩
  obtain ⟨e1, he1⟩ : ∃ e, R.e = e := ⟨_, rfl⟩
  have hrv : R.pv = lpv ⟨y1, p1, q1, h1, s1⟩ d1 e1 := by unfold Rl.pv; rw [hx1, hd1, he1]
  rw [hrv] at HPa
  have HR := Lib.hid hrv
  clear hrv hx1 hd1 he1
  go_wp2_with (first
    | (go_at_call 24; refine (HPa.out V K2.out.1.low).mono ?_; rintro r3 w3 ⟨rfl, k3⟩; have K3 := Lib.hid (K2.out.1.below k3); clear c0 c1 c2 c3 c4 c5 c6 f0 f1 f2 f3 f4 f5 f6 o0 o1 o2 o3 o4 o5 o6 g0 g1 g2 g3 g4 g5 g6 m0 m1 x1 x2 x3 x6; obtain ⟨-, -, ⟨o0, o1, o2, o3, o4, o5, o6⟩, ⟨g0, g1, g2, g3, g4, g5, g6⟩, -, -⟩ := K3.out.cells))
  refine bodyPost_ret (v := lpv ⟨y1, p1, q1, h1, s1⟩ d1 e1) (by simp [results, Tryz.results63, go_sem, o0, o1, o2, o3, o4, o5, o6]) rfl ⟨by rw [HR.out], ?_⟩
  have hle := HB.out
  repeat refine Below.setCell ?_ (by simp <;> omega) _
  exact K3.out.low

end Go.Proofs.YtfomhdhiibcdfaaGreat.Ahead

/-! Through all that stand in a box, till the look ends. -/
namespace Go.Proofs.YtfomhdhiibcdfaaGreat.Ahead
open Go.RowKit Go.Sort Go.Proofs.YtfomhdhiibcdfaaGreat.More Go.Proofs.YtfomhdhiibcdfaaGreat.Record Go.Proofs.YtfomhdhiibcdfaaGreat.Script Go.Proofs.YtfomhdhiibcdfaaGreat.Tree Go.Proofs.YtfomhdhiibcdfaaGreat.Shelf Go.Proofs.YtfomhdhiibcdfaaGreat.Space Go.Proofs.YtfomhdhiibcdfaaGreat.Spot
set_option linter.unusedVariables false
set_option linter.unusedSimpArgs false

/-- Those of a box from a place on. -/
def restK (d : Nat → Int) (n i m : Nat) : List Nat := (kids d n i).drop (kidsTo d i m).length

theorem kidsTo_pre (d : Nat → Int) (i m : Nat) : ∀ e, m ≤ e → ∃ R, kidsTo d i e = kidsTo d i m ++ R
  | 0, h => by obtain rfl : m = 0 := by omega
               exact ⟨[], by simp⟩
  | e + 1, h => by
    by_cases q : m = e + 1
    · subst q; exact ⟨[], by simp⟩
    · obtain ⟨R, hR⟩ := kidsTo_pre d i m e (by omega)
      exact ⟨R ++ _, by rw [kidsTo_next, hR, List.append_assoc]⟩

theorem rest_step {d : Nat → Int} {n i m : Nat} (hi : i < n) (him : i < m) (hm : m < en d n i) (hd : d m = d i + 1) : restK d n i m = m :: restK d n i (en d n m) := by
  obtain ⟨s1, s2, s3, s4⟩ := kids_step hi him hm hd
  obtain ⟨R, hR⟩ := kidsTo_pre d i (en d n m) (en d n i) s2
  have hk : kids d n i = kidsTo d i (en d n m) ++ R := hR
  unfold restK
  rw [hk, List.drop_left, s3, List.append_assoc, List.drop_left]
  rfl
theorem rest_start (d : Nat → Int) (n i : Nat) : restK d n i (i + 1) = kids d n i := by unfold restK; rw [kidsTo_start]; rfl
theorem rest_end (d : Nat → Int) (n i : Nat) : restK d n i (en d n i) = [] := by
  unfold restK
  exact List.drop_eq_nil_of_le (Nat.le_refl _)

/-- As the program goes on: not at all, if the look has ended. -/
def goE (bs : List Bx) (past : Nat → Rl → Rl) (cs : List Nat) (k : Rl) : Rl := if k.e = true then k else goK bs past cs k

theorem goE_step {bs : List Bx} {past : Nat → Rl → Rl} {c : Nat} {cs : List Nat} {k : Rl} (h : k.e = false) : goE bs past (c :: cs) k = goE bs past cs (stepK bs past c k) := by
  unfold goE
  rw [if_neg (by rw [h]; simp), goK]
theorem goE_nil (bs : List Bx) (past : Nat → Rl → Rl) (k : Rl) : goE bs past [] k = k := by
  unfold goE goK; split <;> rfl
theorem goE_end {bs : List Bx} {past : Nat → Rl → Rl} {cs : List Nat} {k : Rl} (h : k.e = true) : goE bs past cs k = k := by
  unfold goE; rw [if_pos h]

set_option maxRecDepth 100000 in
set_option maxHeartbeats 2000000 in
theorem hamong_any {T : World → Addr → List Bx → Prop} {S : World → (Nat → Prop) → Addr → List Fl → Prop} (hT : TreeOk T) (hS : SpaceOk S) (pt ps : Addr) (bs : List Bx) (past : Nat → Rl → Rl) (i : Nat) (k : Rl) (t : Nat) (w : World) (hi : i < bs.length) (hl : bs.length ≤ 1000) (hsh : Shape (dOf bs) bs.length) (ht : T w pt bs) (hs : Slim t k)
    (hless : ∀ m k', i < m → m < bs.length → Less k' (stepK bs past m k') (2 * (en (dOf bs) bs.length m - m)))
    (hP : ∀ m k' w', Below w.heap.size w w' → i < m → m < bs.length → k'.e = false → Slim (t + 2 * (m - (i + 1))) k' → Calls Tryz.prog 63 #[.agg #[.pointer (some pt), .pointer (some ps)], .int .i64 (m : Int), k'.pv] w' fun r w'' => r = .returned (stepK bs past m k').pv ∧ Below w'.heap.size w' w'') :
    Calls Tryz.prog 45 #[.agg #[.pointer (some pt), .pointer (some ps)], .int .i64 (i : Int), k.pv] w fun r w' => r = .returned (goE bs past (kids (dOf bs) bs.length i) k).pv ∧ Below w.heap.size w w' := by
  obtain ⟨⟨y, p, q, h, s⟩, hx⟩ : ∃ x, k.x.sp = x := ⟨_, rfl⟩
  obtain ⟨D, hD⟩ : ∃ D, sidesI k.l k.r = D := ⟨_, rfl⟩
  obtain ⟨E, hE⟩ : ∃ E, k.e = E := ⟨_, rfl⟩
  have hpv : k.pv = lpv ⟨y, p, q, h, s⟩ D E := by unfold Rl.pv; rw [hx, hD, hE]
  rw [hpv]
  obtain ⟨G, hG⟩ : ∃ G, goE bs past (kids (dOf bs) bs.length i) k = G := ⟨_, rfl⟩
  rw [hG]
  have hen := fun (m : Nat) w' (j : Below w.heap.size w w') => hT.en w' pt bs (m : Int) (hT.keep _ _ _ _ ht j)
  have HEn := Lib.hid hen
  have HLess := Lib.hid hless
  have HTh := Lib.hid hP
  have hei := en_spec (dOf bs) bs.length i hi
  obtain ⟨n, hn⟩ : ∃ n, bs.length = n := ⟨_, rfl⟩
  obtain ⟨z, hz⟩ : ∃ z, en (dOf bs) n i = z := ⟨_, rfl⟩
  rw [hn] at hei hi hl hsh
  rw [hz] at hei
  have h1 : i + 1 ≤ z := by have := hei.1; omega
  have h2 : z ≤ n := hei.2.1
  have HST : Hid (∀ m, i < m → m < z → dOf bs m = dOf bs i + 1 → m < en (dOf bs) n m ∧ en (dOf bs) n m ≤ z ∧ (en (dOf bs) n m < z → dOf bs (en (dOf bs) n m) = dOf bs i + 1) ∧ restK (dOf bs) n i m = m :: restK (dOf bs) n i (en (dOf bs) n m)) :=
    Lib.hid fun m a b c => by
      rw [← hz] at b ⊢
      obtain ⟨s1, s2, s3, s4⟩ := kids_step hi a b c
      exact ⟨s1, s2, s4, rest_step hi a b c⟩
  have HS0 : Hid (i + 1 < z → dOf bs (i + 1) = dOf bs i + 1) := Lib.hid fun h => kids_first hsh hi (by rw [hz]; exact h)
  have HRe : Hid (restK (dOf bs) n i z = []) := Lib.hid (by rw [← hz]; exact rest_end _ _ _)
  have HG := Lib.hid (show goE bs past (restK (dOf bs) n i (i + 1)) k = G by rw [rest_start, ← hn]; exact hG)
  have HSl := Lib.hid (⟨hs, hpv, hx, hD, hE⟩ : Slim t k ∧ k.pv = lpv ⟨y, p, q, h, s⟩ D E ∧ k.x.sp = ⟨y, p, q, h, s⟩ ∧ sidesI k.l k.r = D ∧ k.e = E)
  have HN := Lib.hid hn
  have hwi : IntKind.i64.wrap ((i : Int) + 1) = ((i + 1 : Nat) : Int) := by rw [IntWalk.i64_in _ (by omega)]; omega
  have hei1 : enT bs (i : Int) = (z : Int) := by rw [enT_nat (by omega), hn, hz]
  have HEi := Lib.hid (fun w' j => by have q := hen i w' j; rw [hei1] at q; exact q)
  clear hP hless hen hei hG hs hpv hx hD hE hsh ht hei1
  go_enter Tryz.func45, Tryz.ntmps45
  go_upto_region 1 with fail
  generalize hW1 : World.alloc (World.alloc (World.alloc _ _) _) _ = W
  have L3 := three_news w 70 42 42 [.pointer (some pt), .pointer (some ps)] (lprow ⟨y, p, q, h, s⟩ D E) zeroLp (by simp) (by simp)
  obtain ⟨b0, hb0⟩ : ∃ b0, w.heap.size = b0 := ⟨_, rfl⟩
  replace L3 := (show PSt w W b0 pt ps ⟨y, p, q, h, s⟩ D E by rw [← hW1, ← hb0]; exact ⟨L3.2.2.2.1, L3.1, L3.2.1, L3.2.2.1⟩)
  have HB := Lib.hid (Nat.le_of_eq hb0)
  have K1 := Lib.hid L3
  rw [hb0]
  clear hW1 L3 hb0
  obtain ⟨m0, m1⟩ := (show _ ∧ _ from K1.out.cells.2.2.2.2)
  go_upto_region 2 with (first
    | (go_at_call 62; refine (HEi.out W K1.out.low).mono ?_; rintro r1 w1 ⟨rfl, k1⟩; have K2 := Lib.hid (K1.out.below k1); clear k1))
  clear m0 m1 K1 HEi hz hn
  go_wp2_with fail
  go_loopw [8] (fun cs wr => ∃ (m : Nat) (kj : Rl), i + 1 ≤ m ∧ m ≤ z ∧ cs = .int .i64 (m : Int) ∧ Hid (PSt w wr b0 pt ps kj.x.sp (sidesI kj.l kj.r) kj.e ∧ (m < z → dOf bs m = dOf bs i + 1) ∧ goE bs past (restK (dOf bs) n i m) kj = G ∧ Slim (t + 2 * (m - (i + 1))) kj)) (fun cs _ => z - (intOf cs).toNat)
  case atStart => exact ⟨i + 1, k, Nat.le_refl _, h1, rfl, Lib.hid ⟨by rw [HSl.out.2.2.1, HSl.out.2.2.2.1, HSl.out.2.2.2.2]; exact K2.out, HS0.out, HG.out, by rw [Nat.sub_self]; exact HSl.out.1⟩⟩
  case round =>
    clear HG HS0 K2 HSl
    obtain ⟨m, kj, hm1, hm2, rfl, H⟩ := hrel
    obtain ⟨⟨yj, pj, qj, hj, sj⟩, hxj⟩ : ∃ x, kj.x.sp = x := ⟨_, rfl⟩
    obtain ⟨dj, hdj⟩ : ∃ d, sidesI kj.l kj.r = d := ⟨_, rfl⟩
    obtain ⟨ej, hej⟩ : ∃ e, kj.e = e := ⟨_, rfl⟩
    have KR := Lib.hid (show PSt w wr b0 pt ps ⟨yj, pj, qj, hj, sj⟩ dj ej by rw [← hxj, ← hdj, ← hej]; exact H.out.1)
    have hpj : kj.pv = lpv ⟨yj, pj, qj, hj, sj⟩ dj ej := by unfold Rl.pv; rw [hxj, hdj, hej]
    obtain ⟨⟨c0, c1, c2, c3, c4, c5, c6⟩, ⟨f0, f1, f2, f3, f4, f5, f6⟩, ⟨o0, o1, o2, o3, o4, o5, o6⟩, ⟨g0, g1, g2, g3, g4, g5, g6⟩, m0, m1⟩ := KR.out.cells
    by_cases hlt : m < z
    · have hli : (m : Int) < (z : Int) := by omega
      cases ej with
      | true =>
        have hr : G = kj := by rw [← H.out.2.2.1]; exact goE_end hej
        have HR := Lib.hid (show G.pv = lpv ⟨yj, pj, qj, hj, sj⟩ dj true by rw [hr, hpj])
        clear hr hpj hxj hdj hej H hlt
        go_wp2_with fail
        refine bodyPost_ret (v := lpv ⟨yj, pj, qj, hj, sj⟩ dj true) (by simp [results, Tryz.results45, go_sem, o0, o1, o2, o3, o4, o5, o6]) rfl ⟨by rw [HR.out], ?_⟩
        have hle := HB.out
        repeat refine Below.setCell ?_ (by simp <;> omega) _
        exact KR.out.low
      | false =>
        obtain ⟨s1, s2, s4, s5⟩ := HST.out m (by omega) hlt (H.out.2.1 hlt)
        have hmn : m < n := by omega
        obtain ⟨kn, hkn⟩ : ∃ kn, stepK bs past m kj = kn := ⟨_, rfl⟩
        have hth := HTh.out m kj wr KR.out.low (by omega) (by rw [HN.out]; exact hmn) hej H.out.2.2.2
        have hls := HLess.out m kj (by omega) (by rw [HN.out]; exact hmn)
        rw [hkn, hpj] at hth
        rw [hkn, HN.out] at hls
        have hgo := H.out.2.2.1
        rw [s5, goE_step hej, hkn] at hgo
        obtain ⟨zm, hzm⟩ : ∃ zm, en (dOf bs) n m = zm := ⟨_, rfl⟩
        rw [hzm] at s1 s2 s4 hgo hls
        have hsl : Slim (t + 2 * (zm - (i + 1))) kn := H.out.2.2.2.less hls (by omega)
        have HF := Lib.hid (⟨hgo, s4, hsl⟩ : goE bs past (restK (dOf bs) n i zm) kn = G ∧ (zm < z → dOf bs zm = dOf bs i + 1) ∧ Slim (t + 2 * (zm - (i + 1))) kn)
        have HTm := Lib.hid hth
        have hem : enT bs (m : Int) = (zm : Int) := by rw [enT_nat (by rw [HN.out]; exact hmn), HN.out, hzm]
        have HEm := Lib.hid (fun w' j => by have q := HEn.out m w' j; rw [hem] at q; exact q)
        obtain ⟨⟨y1, p1, q1, h1', s1'⟩, hx1⟩ : ∃ x, kn.x.sp = x := ⟨_, rfl⟩
        obtain ⟨d1, hd1⟩ : ∃ d, sidesI kn.l kn.r = d := ⟨_, rfl⟩
        obtain ⟨e1, he1⟩ : ∃ e, kn.e = e := ⟨_, rfl⟩
        have hrv : kn.pv = lpv ⟨y1, p1, q1, h1', s1'⟩ d1 e1 := by unfold Rl.pv; rw [hx1, hd1, he1]
        rw [hrv] at HTm
        have HX1 := Lib.hid (⟨hx1, hd1, he1⟩ : kn.x.sp = ⟨y1, p1, q1, h1', s1'⟩ ∧ sidesI kn.l kn.r = d1 ∧ kn.e = e1)
        clear hgo s4 s5 hsl hth hls hem hkn hzm hpj hxj hdj hej H hrv hx1 hd1 he1 hmn hlt
        go_upto_region 4 with (first
          | (go_at_call 63; refine HTm.out.mono ?_; rintro r3 w3 ⟨rfl, k3⟩; have K3 := Lib.hid (KR.out.below k3); clear k3; clear c0 c1 c2 c3 c4 c5 c6 f0 f1 f2 f3 f4 f5 f6 o0 o1 o2 o3 o4 o5 o6 g0 g1 g2 g3 g4 g5 g6 m0 m1; obtain ⟨⟨c0, c1, c2, c3, c4, c5, c6⟩, ⟨f0, f1, f2, f3, f4, f5, f6⟩, -, -, -, -⟩ := K3.out.cells))
        generalize hU : World.setCell (World.setCell (World.setCell (World.setCell (World.setCell (World.setCell (World.setCell w3 _ _) _ _) _ _) _ _) _ _) _ _) _ _ = U
        have zU : PSt w U b0 pt ps ⟨y1, p1, q1, h1', s1'⟩ d1 e1 := by
          rw [← hU]
          exact K3.out.onto HB.out (save_seven _ _ _ _ _ _ _ _ _) (lies_seven K3.out.look _ _ _ _ _ _ _)
        have KU := Lib.hid zU
        clear zU hU K3 KR HTm c0 c1 c2 c3 c4 c5 c6 f0 f1 f2 f3 f4 f5 f6
        obtain ⟨-, -, -, -, m0, m1⟩ := KU.out.cells
        go_wp2_with (first
          | (go_at_call 62; refine (HEm.out U KU.out.low).mono ?_; rintro r5 w5 ⟨rfl, k5⟩; have K5 := Lib.hid (KU.out.below k5); clear k5))
        go_roundw
        case rel =>
          exact ⟨zm, kn, by omega, s2, rfl, Lib.hid ⟨by rw [HX1.out.1, HX1.out.2.1, HX1.out.2.2]; exact K5.out, HF.out.2.1, HF.out.1, HF.out.2.2⟩⟩
        case measure => simp [intOf]; omega
    · obtain rfl : m = z := by omega
      have hr : G = kj := by rw [← H.out.2.2.1, HRe.out]; exact goE_nil _ _ _
      have HR := Lib.hid (show G.pv = lpv ⟨yj, pj, qj, hj, sj⟩ dj ej by rw [hr, hpj])
      clear hr hpj hxj hdj hej H hlt
      go_wp2_with fail
      refine bodyPost_ret (v := lpv ⟨yj, pj, qj, hj, sj⟩ dj ej) (by simp [results, Tryz.results45, go_sem, o0, o1, o2, o3, o4, o5, o6]) rfl ⟨by rw [HR.out], ?_⟩
      have hle := HB.out
      repeat refine Below.setCell ?_ (by simp <;> omega) _
      exact KR.out.low

end Go.Proofs.YtfomhdhiibcdfaaGreat.Ahead

/-! Into a box. -/
namespace Go.Proofs.YtfomhdhiibcdfaaGreat.Ahead
open Go.RowKit Go.Sort Go.Proofs.YtfomhdhiibcdfaaGreat.More Go.Proofs.YtfomhdhiibcdfaaGreat.Record Go.Proofs.YtfomhdhiibcdfaaGreat.Script Go.Proofs.YtfomhdhiibcdfaaGreat.Tree Go.Proofs.YtfomhdhiibcdfaaGreat.Shelf Go.Proofs.YtfomhdhiibcdfaaGreat.Space Go.Proofs.YtfomhdhiibcdfaaGreat.Spot
set_option linter.unusedVariables false
set_option linter.unusedSimpArgs false

theorem into_prog {bs : List Bx} (hW : Wood bs) (past : Nat → Rl → Rl) {i : Nat} (hi : i < bs.length) {k : Rl} (hke : k.e = false) {b : Bx} (hb : bs.getD i noB = b) {k2 : Rl} (h2 : goE bs past (kids (dOf bs) bs.length i) ⟨withR k.x b.m0, k.l, k.r, decide (0 < b.e0)⟩ = k2) :
    intoOf bs past i k = if (decide (0 < b.e2) || !(b.h == -1)) = true then { k2 with e := true } else k2 := by
  have hh := hW.hei i hi
  rw [hb] at hh
  obtain ⟨x, l, r, e⟩ := k
  dsimp only at hke
  subst hke
  unfold intoOf
  rw [hb]
  by_cases h0 : 0 < b.e0
  · rw [if_pos h0]
    rw [decide_eq_true h0, goE_end rfl] at h2
    rw [← h2]
    split <;> rfl
  · rw [if_neg h0]
    rw [decide_eq_false h0] at h2
    unfold goE at h2
    rw [if_neg (by simp)] at h2
    dsimp only at h2 ⊢
    rw [h2]
    have hx : (decide (0 < b.e2) || decide (0 ≤ b.h)) = (decide (0 < b.e2) || !(b.h == -1)) := by
      congr 1
      rw [Bool.eq_iff_iff]
      simp
      omega
    obtain ⟨x2, l2, r2, e2⟩ := k2
    unfold endK
    rw [hx]
    cases e2 <;> cases (decide (0 < b.e2) || !(b.h == -1)) <;> rfl

set_option maxRecDepth 100000 in
set_option maxHeartbeats 2000000 in
theorem hinto_any {T : World → Addr → List Bx → Prop} {S : World → (Nat → Prop) → Addr → List Fl → Prop} (hT : TreeOk T) (hS : SpaceOk S) (pt ps : Addr) (bs : List Bx) (past : Nat → Rl → Rl) (i : Nat) (k : Rl) (t : Nat) (w : World) (hi : i < bs.length) (hW : Wood bs) (hke : k.e = false) (ht : T w pt bs) (hs : Slim t k)
    (hP : ∀ k' w', Below w.heap.size w w' → Slim (t + 1) k' → Calls Tryz.prog 45 #[.agg #[.pointer (some pt), .pointer (some ps)], .int .i64 (i : Int), k'.pv] w' fun r w'' => r = .returned (goE bs past (kids (dOf bs) bs.length i) k').pv ∧ Below w'.heap.size w' w'') :
    Calls Tryz.prog 23 #[.agg #[.pointer (some pt), .pointer (some ps)], .int .i64 (i : Int), k.pv] w fun r w' => r = .returned (intoOf bs past i k).pv ∧ Below w.heap.size w w' := by
  obtain ⟨⟨y, p, q, h, s⟩, hx⟩ : ∃ x, k.x.sp = x := ⟨_, rfl⟩
  obtain ⟨D, hD⟩ : ∃ D, sidesI k.l k.r = D := ⟨_, rfl⟩
  obtain ⟨b, hb⟩ : ∃ b, bs.getD i noB = b := ⟨_, rfl⟩
  have hpv : k.pv = lpv ⟨y, p, q, h, s⟩ D false := by unfold Rl.pv; rw [hx, hD, hke]
  have hbox := fun w' (j : Below w.heap.size w w') => hT.box w' pt bs (i : Int) (hT.keep _ _ _ _ ht j)
  rw [boxT_nat hi, hb] at hbox
  have HBox := Lib.hid hbox
  have hclr := hW.clr i hi
  rw [hb] at hclr
  have HClr := Lib.hid hclr
  clear hbox hclr
  rw [hpv]
  have hm := (hW.marg i hi).1
  rw [hb] at hm
  obtain ⟨k2, hk2⟩ : ∃ k2, goE bs past (kids (dOf bs) bs.length i) ⟨withR k.x b.m0, k.l, k.r, decide (0 < b.e0)⟩ = k2 := ⟨_, rfl⟩
  have hG := into_prog hW past hi hke hb hk2
  obtain ⟨G, hG0⟩ : ∃ G, intoOf bs past i k = G := ⟨_, rfl⟩
  rw [hG0] at hG ⊢
  obtain ⟨⟨y1, p1, q1, h1, s1⟩, hw1⟩ : ∃ z, withS ⟨y, p, q, h, s⟩ b.m0 = z := ⟨_, rfl⟩
  have hx1 : (withR k.x b.m0).sp = ⟨y1, p1, q1, h1, s1⟩ := by rw [withR_sp, hx, hw1]
  obtain ⟨E, hE⟩ : ∃ E, decide (0 < b.e0) = E := ⟨_, rfl⟩
  rw [hE] at hk2
  have hpv1 : (⟨withR k.x b.m0, k.l, k.r, E⟩ : Rl).pv = lpv ⟨y1, p1, q1, h1, s1⟩ D E := by unfold Rl.pv; dsimp only; rw [hx1, hD]
  have hs1 : Slim (t + 1) ⟨withR k.x b.m0, k.l, k.r, E⟩ := hs.less (s := 1) ⟨rfl, rfl, rfl, fun q => by show (k.x.ms ++ [b.m0]).all in50 = true; rw [List.all_append, q]; simp [hm], by show (k.x.ms ++ [b.m0]).length ≤ _; simp⟩ (Nat.le_refl _)
  have hAm := fun w' j => hP ⟨withR k.x b.m0, k.l, k.r, E⟩ w' j hs1
  rw [hk2, hpv1] at hAm
  obtain ⟨⟨y2, p2, q2, h2, s2⟩, hx2⟩ : ∃ x, k2.x.sp = x := ⟨_, rfl⟩
  obtain ⟨d2, hd2⟩ : ∃ d, sidesI k2.l k2.r = d := ⟨_, rfl⟩
  obtain ⟨e2, he2⟩ : ∃ e, k2.e = e := ⟨_, rfl⟩
  have hpv2 : k2.pv = lpv ⟨y2, p2, q2, h2, s2⟩ d2 e2 := by unfold Rl.pv; rw [hx2, hd2, he2]
  rw [hpv2] at hAm
  have HAm := Lib.hid hAm
  have HW1 := Lib.hid hw1
  obtain ⟨u, hu⟩ : ∃ u, (decide (0 < b.e2) || !(b.h == -1)) = u := ⟨_, rfl⟩
  have hGv : G.pv = lpv ⟨y2, p2, q2, h2, s2⟩ d2 (u || e2) := by
    rw [hG, hu]
    cases u
    · rw [if_neg (by simp), hpv2]; rfl
    · rw [if_pos rfl]; unfold Rl.pv; dsimp only; rw [hx2, hd2]; rfl
  have HU0 := Lib.hid hu
  have HGv := Lib.hid hGv
  have hE' : decide (b.e0 > 0) = E := hE
  clear hP hW hke ht hb hpv hx hD hi hs hm hk2 hG hG0 hw1 hx1 hpv1 hs1 hAm hx2 hd2 he2 hpv2 hu hGv
  go_enter Tryz.func23, Tryz.ntmps23
  go_upto_region 1 with fail
  generalize hW1 : World.alloc (World.alloc (World.alloc _ _) _) _ = W
  have L3 := three_news w 70 42 42 [.pointer (some pt), .pointer (some ps)] (lprow ⟨y, p, q, h, s⟩ D false) zeroLp (by simp) (by simp)
  obtain ⟨b0, hb0⟩ : ∃ b0, w.heap.size = b0 := ⟨_, rfl⟩
  replace L3 := (show PSt w W b0 pt ps ⟨y, p, q, h, s⟩ D false by rw [← hW1, ← hb0]; exact ⟨L3.2.2.2.1, L3.1, L3.2.1, L3.2.2.1⟩)
  have HB := Lib.hid (Nat.le_of_eq hb0)
  have K1 := Lib.hid L3
  rw [hb0]
  clear hW1 L3 hb0
  obtain ⟨m0, m1⟩ := (show _ ∧ _ from K1.out.cells.2.2.2.2)
  go_upto_region 2 with (first
    | (go_at_call 43; refine (HBox.out W K1.out.low).mono ?_; rintro r1 w1 ⟨rfl, k1⟩; have KB := Lib.hid (K1.out.below k1); clear k1))
  clear m0 m1
  generalize hW2 : World.alloc w1 _ = V
  obtain ⟨g, hg⟩ : ∃ g, w1.heap.size = g := ⟨_, rfl⟩
  have k2 : Below w1.heap.size w1 V := by rw [← hW2]; exact ba1 _ _
  have z9 : At V g b := by rw [← hW2, ← hg]; exact At.of_block (heap_alloc_new w1 _)
  rw [hg]
  have HG := Lib.hid (show b0 + 3 ≤ g by rw [← hg]; exact KB.out.lt)
  have K2 := Lib.hid (⟨KB.out.below k2, z9⟩ : PSt w V b0 pt ps ⟨y, p, q, h, s⟩ D false ∧ At V g b)
  clear hW2 hg k2 z9 KB K1
  obtain ⟨-, -, -, -, -, -, x6, -⟩ := K2.out.2
  obtain ⟨⟨c0, c1, c2, c3, c4, c5, c6⟩, -, -, -, -, -⟩ := K2.out.1.cells
  go_upto_region 3 with (first
    | (go_at_call 44; refine (gwith_is HW1.out V).mono ?_; rintro r4 w4 ⟨rfl, k4⟩; have K4 := Lib.hid (⟨K2.out.1.below k4, K2.out.2.below K2.out.2.lt k4⟩ : PSt w w4 b0 pt ps ⟨y, p, q, h, s⟩ D false ∧ At w4 g b); clear c0 c1 c2 c3 c4 c5 c6 x6; obtain ⟨⟨c0, c1, c2, c3, c4, c5, c6⟩, ⟨f0, f1, f2, f3, f4, f5, f6⟩, -, -, -, -⟩ := K4.out.1.cells))
  generalize hU : World.setCell (World.setCell (World.setCell (World.setCell (World.setCell w4 _ _) _ _) _ _) _ _) _ _ = U
  have zU : PSt w U b0 pt ps ⟨y1, p1, q1, h1, s1⟩ D false ∧ At U g b := by
    rw [← hU]
    have sv := Save.five w4 (b0 + 1) (.int .i64 y1) (.int .i64 p1) (.int .i64 q1) (.bool h1) (.bool s1)
    exact ⟨K4.out.1.onto HB.out sv (((((K4.out.1.look.set 0 _ (by simp)).set 1 _ (by simp)).set 2 _ (by simp)).set 3 _ (by simp)).set 4 _ (by simp)), at_other K4.out.2 sv (by have := HG.out; omega)⟩
  have KU := Lib.hid zU
  clear zU hU K4 K2 c0 c1 c2 c3 c4 c5 c6 f0 f1 f2 f3 f4 f5 f6
  obtain ⟨-, -, -, -, -, -, -, -, -, -, x10, -⟩ := KU.out.2
  obtain ⟨⟨c0, c1, c2, c3, c4, c5, c6⟩, ⟨f0, f1, f2, f3, f4, f5, f6⟩, -, -, -, -⟩ := KU.out.1.cells
  go_upto_region 4 with fail
  generalize hU2 : World.setCell U _ _ = U2
  have zU : PSt w U2 b0 pt ps ⟨y1, p1, q1, h1, s1⟩ D E ∧ At U2 g b := by
    rw [← hU2]
    have sv := Save.set (w := U) (b0 + 1) 6 (.bool E)
    exact ⟨KU.out.1.onto HB.out sv (KU.out.1.look.set 6 _ (by simp)), at_other KU.out.2 sv (by have := HG.out; omega)⟩
  have KE := Lib.hid zU
  clear zU hU2 KU c0 c1 c2 c3 c4 c5 c6 f0 f1 f2 f3 f4 f5 f6 x10 hE hE'
  obtain ⟨⟨c0, c1, c2, c3, c4, c5, c6⟩, -, -, -, m0, m1⟩ := KE.out.1.cells
  go_upto_region 5 with (first
    | (go_at_call 45; refine (HAm.out U2 KE.out.1.low).mono ?_; rintro r5 w5 ⟨rfl, k5⟩; have K5 := Lib.hid (⟨KE.out.1.below k5, KE.out.2.below KE.out.2.lt k5⟩ : PSt w w5 b0 pt ps ⟨y1, p1, q1, h1, s1⟩ D E ∧ At w5 g b); clear c0 c1 c2 c3 c4 c5 c6 m0 m1; obtain ⟨⟨c0, c1, c2, c3, c4, c5, c6⟩, ⟨f0, f1, f2, f3, f4, f5, f6⟩, -, -, -, -⟩ := K5.out.1.cells))
  generalize hU3 : World.setCell (World.setCell (World.setCell (World.setCell (World.setCell (World.setCell (World.setCell w5 _ _) _ _) _ _) _ _) _ _) _ _) _ _ = U3
  have zU : PSt w U3 b0 pt ps ⟨y2, p2, q2, h2, s2⟩ d2 e2 ∧ At U3 g b := by
    rw [← hU3]
    have sv := save_seven w5 (b0 + 1) (.int .i64 y2) (.int .i64 p2) (.int .i64 q2) (.bool h2) (.bool s2) (.int .i64 d2) (.bool e2)
    exact ⟨K5.out.1.onto HB.out sv (lies_seven K5.out.1.look _ _ _ _ _ _ _), at_other K5.out.2 sv (by have := HG.out; omega)⟩
  have K6 := Lib.hid zU
  clear zU hU3 K5 KE c0 c1 c2 c3 c4 c5 c6 f0 f1 f2 f3 f4 f5 f6 HAm HW1
  go_cut [36] (fun tt wx => tt = .bool u ∧ wx = U3)
  case first =>
    obtain ⟨-, -, -, -, -, x5, -, -, -, -, -, -, x12, -⟩ := K6.out.2
    by_cases hq : 0 < b.e2
    · have hu1 : u = true := by rw [← HU0.out]; simp [hq]
      have hq2 : b.e2 > 0 := hq
      go_wp2_with fail
      go_meet
      exact ⟨by rw [hu1], rfl⟩
    · have hq2 : ¬ b.e2 > 0 := hq
      by_cases hh : b.h = -1
      · have hu1 : u = false := by rw [← HU0.out]; simp [hq, hh]
        have hb1 : (b.h != -1) = false := by simp [hh]
        clear hh
        go_wp2_with fail
        go_meet
        exact ⟨by rw [hu1], rfl⟩
      · have hu1 : u = true := by rw [← HU0.out]; simp [hq, hh]
        have hb1 : (b.h != -1) = true := by simp [hh]
        clear hh
        go_wp2_with fail
        go_meet
        exact ⟨by rw [hu1], rfl⟩
  case rest =>
  obtain ⟨rfl, rfl⟩ := hcut
  obtain ⟨⟨c0, c1, c2, c3, c4, c5, c6⟩, ⟨f0, f1, f2, f3, f4, f5, f6⟩, ⟨o0, o1, o2, o3, o4, o5, o6⟩, ⟨g0, g1, g2, g3, g4, g5, g6⟩, m0, m1⟩ := K6.out.1.cells
  cases u with
  | true =>
    have HR := Lib.hid (show G.pv = lpv ⟨y2, p2, q2, h2, s2⟩ d2 true from HGv.out)
    go_wp2_with (first
      | (go_at_call 46; refine (lend_any ⟨y2, p2, q2, h2, s2⟩ d2 e2 _).mono ?_; rintro r7 w7 ⟨rfl, k7⟩; have K7 := Lib.hid (K6.out.1.below k7); clear c0 c1 c2 c3 c4 c5 c6 f0 f1 f2 f3 f4 f5 f6 o0 o1 o2 o3 o4 o5 o6 g0 g1 g2 g3 g4 g5 g6 m0 m1; obtain ⟨-, -, ⟨o0, o1, o2, o3, o4, o5, o6⟩, ⟨g0, g1, g2, g3, g4, g5, g6⟩, -, -⟩ := K7.out.cells))
    refine bodyPost_ret (v := lpv ⟨y2, p2, q2, h2, s2⟩ d2 true) (by simp [results, Tryz.results23, go_sem, o0, o1, o2, o3, o4, o5, o6]) rfl ⟨by rw [HR.out], ?_⟩
    have hle := HB.out
    repeat refine Below.setCell ?_ (by simp <;> omega) _
    exact K7.out.low
  | false =>
    have HR := Lib.hid (show G.pv = lpv ⟨y2, p2, q2, h2, s2⟩ d2 e2 from HGv.out)
    go_wp2_with fail
    refine bodyPost_ret (v := lpv ⟨y2, p2, q2, h2, s2⟩ d2 e2) (by simp [results, Tryz.results23, go_sem, o0, o1, o2, o3, o4, o5, o6]) rfl ⟨by rw [HR.out], ?_⟩
    have hle := HB.out
    repeat refine Below.setCell ?_ (by simp <;> omega) _
    exact K6.out.1.low

end Go.Proofs.YtfomhdhiibcdfaaGreat.Ahead

/-! Past a box. -/
namespace Go.Proofs.YtfomhdhiibcdfaaGreat.Ahead
open Go.RowKit Go.Sort Go.Proofs.YtfomhdhiibcdfaaGreat.More Go.Proofs.YtfomhdhiibcdfaaGreat.Record Go.Proofs.YtfomhdhiibcdfaaGreat.Script Go.Proofs.YtfomhdhiibcdfaaGreat.Tree Go.Proofs.YtfomhdhiibcdfaaGreat.Shelf Go.Proofs.YtfomhdhiibcdfaaGreat.Space Go.Proofs.YtfomhdhiibcdfaaGreat.Spot
set_option linter.unusedVariables false
set_option linter.unusedSimpArgs false

set_option maxRecDepth 100000 in
set_option maxHeartbeats 2000000 in
theorem hpast_any {T : World → Addr → List Bx → Prop} {S : World → (Nat → Prop) → Addr → List Fl → Prop} (hT : TreeOk T) (hS : SpaceOk S) (pt ps : Addr) (F : Nat → Prop) (bs : List Bx) (fs : List Fl) (into : Nat → Rl → Rl) (i : Nat) (k : Rl) (w : World) (hi : i < bs.length) (hW : Wood bs) (hke : k.e = false) (ht : T w pt bs) (hsp : S w F ps fs) (hn : fs.all nearF = true) (hf : FineS (into i k).x.sp)
    (hP : ∀ w', Below w.heap.size w w' → Calls Tryz.prog 23 #[.agg #[.pointer (some pt), .pointer (some ps)], .int .i64 (i : Int), k.pv] w' fun r w'' => r = .returned (into i k).pv ∧ Below w'.heap.size w' w'') :
    Calls Tryz.prog 24 #[.agg #[.pointer (some pt), .pointer (some ps)], .int .i64 (i : Int), k.pv] w fun r w' => r = .returned (pastOf bs fs into i k).pv ∧ Below w.heap.size w w' := by
  obtain ⟨⟨y, p, q, h, s⟩, hx⟩ : ∃ x, k.x.sp = x := ⟨_, rfl⟩
  obtain ⟨D, hD⟩ : ∃ D, sidesI k.l k.r = D := ⟨_, rfl⟩
  obtain ⟨b, hb⟩ : ∃ b, bs.getD i noB = b := ⟨_, rfl⟩
  have hpv : k.pv = lpv ⟨y, p, q, h, s⟩ D false := by unfold Rl.pv; rw [hx, hD, hke]
  have hbox := fun w' (j : Below w.heap.size w w') => hT.box w' pt bs (i : Int) (hT.keep _ _ _ _ ht j)
  rw [boxT_nat hi, hb] at hbox
  have HBox := Lib.hid hbox
  have hclr := hW.clr i hi
  rw [hb] at hclr
  have HClr := Lib.hid hclr
  clear hbox hclr
  rw [hpv] at hP ⊢
  have HIn0 := hP
  obtain ⟨kn, hkn⟩ : ∃ kn, into i k = kn := ⟨_, rfl⟩
  obtain ⟨bo, hbo⟩ : ∃ bo, (botS fs b.c).1 = bo := ⟨_, rfl⟩
  obtain ⟨ok, hok⟩ : ∃ ok, (botS fs b.c).2 = ok := ⟨_, rfl⟩
  obtain ⟨v, hv⟩ : ∃ v, clrL b.c k.l k.r = v := ⟨_, rfl⟩
  obtain ⟨a, ha⟩ : ∃ a, atS kn.x.sp = a := ⟨_, rfl⟩
  have hbot := fun w' (j : Below w.heap.size w w') => hS.bottom w' F ps fs b.c (keepSp hS hsp j) hn HClr.out
  rw [hbo, hok] at hbot
  obtain ⟨G, hG⟩ : ∃ G, pastOf bs fs into i k = G := ⟨_, rfl⟩
  rw [hG]
  have hGv : G = if v = true then { k with e := true } else if ok = true ∧ a < bo then { k with e := true } else if kn.e = true then kn else { kn with x := withR kn.x b.m2 } := by
    rw [← hG, ← hkn, ← hbo, ← hok, ← hv, ← ha, ← hkn, ← hb]; rfl
  rw [hkn] at HIn0 hf
  obtain ⟨⟨y2, p2, q2, h2, s2⟩, hx2⟩ : ∃ x, kn.x.sp = x := ⟨_, rfl⟩
  obtain ⟨d2, hd2⟩ : ∃ d, sidesI kn.l kn.r = d := ⟨_, rfl⟩
  obtain ⟨e2, he2⟩ : ∃ e, kn.e = e := ⟨_, rfl⟩
  have hpv2 : kn.pv = lpv ⟨y2, p2, q2, h2, s2⟩ d2 e2 := by unfold Rl.pv; rw [hx2, hd2, he2]
  rw [hpv2] at HIn0
  rw [hx2] at ha hf
  obtain ⟨⟨y3, p3, q3, h3, s3⟩, hw3⟩ : ∃ z, withS ⟨y2, p2, q2, h2, s2⟩ b.m2 = z := ⟨_, rfl⟩
  have hke' : ({ k with e := true } : Rl).pv = lpv ⟨y, p, q, h, s⟩ D true := by unfold Rl.pv; dsimp only; rw [hx, hD]
  have hwv : ({ kn with x := withR kn.x b.m2 } : Rl).pv = lpv ⟨y3, p3, q3, h3, s3⟩ d2 e2 := by unfold Rl.pv; dsimp only; rw [withR_sp, hx2, hw3, hd2, he2]
  obtain ⟨u, hu⟩ : ∃ u, (ok && decide (a < bo)) = u := ⟨_, rfl⟩
  have hGw : G.pv = if v = true then lpv ⟨y, p, q, h, s⟩ D true else if u = true then lpv ⟨y, p, q, h, s⟩ D true else if e2 = true then lpv ⟨y2, p2, q2, h2, s2⟩ d2 true else lpv ⟨y3, p3, q3, h3, s3⟩ d2 false := by
    rw [hGv]
    cases v with
    | true => rw [if_pos rfl, if_pos rfl]; exact hke'
    | false =>
      rw [if_neg (show ¬ false = true by simp), if_neg (show ¬ false = true by simp)]
      cases u with
      | true =>
        have : ok = true ∧ a < bo := by simpa using hu
        rw [if_pos this, if_pos rfl]; exact hke'
      | false =>
        have : ¬ (ok = true ∧ a < bo) := by simpa using hu
        rw [if_neg this, if_neg (show ¬ false = true by simp), he2]
        cases e2 with
        | true => rw [if_pos rfl, if_pos rfl]; exact hpv2
        | false => rw [if_neg (show ¬ false = true by simp), if_neg (show ¬ false = true by simp), ← hwv, he2]
  have HIn := Lib.hid HIn0
  have HBot := Lib.hid hbot
  have HV := Lib.hid hv
  have HD := Lib.hid hD
  have HA := Lib.hid (⟨hf, ha⟩ : FineS ⟨y2, p2, q2, h2, s2⟩ ∧ atS ⟨y2, p2, q2, h2, s2⟩ = a)
  have HU0 := Lib.hid hu
  have HW3 := Lib.hid hw3
  have HGw := Lib.hid hGw
  clear HIn0 hP hW hke ht hb hpv hx hD hi hsp hn hf hkn hbo hok hv ha hbot hG hGv hx2 hd2 he2 hpv2 hw3 hke' hwv hu hGw
  go_enter Tryz.func24, Tryz.ntmps24
  go_upto_region 1 with fail
  generalize hW1 : World.alloc (World.alloc (World.alloc _ _) _) _ = W
  have L3 := three_news w 70 42 42 [.pointer (some pt), .pointer (some ps)] (lprow ⟨y, p, q, h, s⟩ D false) zeroLp (by simp) (by simp)
  obtain ⟨b0, hb0⟩ : ∃ b0, w.heap.size = b0 := ⟨_, rfl⟩
  replace L3 := (show PSt w W b0 pt ps ⟨y, p, q, h, s⟩ D false by rw [← hW1, ← hb0]; exact ⟨L3.2.2.2.1, L3.1, L3.2.1, L3.2.2.1⟩)
  have HB := Lib.hid (Nat.le_of_eq hb0)
  have K1 := Lib.hid L3
  rw [hb0]
  clear hW1 L3 hb0
  obtain ⟨m0, m1⟩ := (show _ ∧ _ from K1.out.cells.2.2.2.2)
  go_upto_region 2 with (first
    | (go_at_call 43; refine (HBox.out W K1.out.low).mono ?_; rintro r1 w1 ⟨rfl, k1⟩; have KB := Lib.hid (K1.out.below k1); clear k1))
  clear m0 m1
  generalize hW2 : World.alloc w1 _ = V
  obtain ⟨g, hg⟩ : ∃ g, w1.heap.size = g := ⟨_, rfl⟩
  have k2 : Below w1.heap.size w1 V := by rw [← hW2]; exact ba1 _ _
  have z9 : At V g b := by rw [← hW2, ← hg]; exact At.of_block (heap_alloc_new w1 _)
  rw [hg]
  have HG := Lib.hid (show b0 + 3 ≤ g by rw [← hg]; exact KB.out.lt)
  have K2 := Lib.hid (⟨KB.out.below k2, z9⟩ : PSt w V b0 pt ps ⟨y, p, q, h, s⟩ D false ∧ At V g b)
  clear hW2 hg k2 z9 KB K1
  obtain ⟨-, -, -, x3, -⟩ := K2.out.2
  obtain ⟨⟨c0, c1, c2, c3, c4, c5, c6⟩, -, -, -, -, -⟩ := K2.out.1.cells
  cases v with
  | true =>
    have hr := HGw.out
    rw [if_pos rfl] at hr
    have HR := Lib.hid hr
    clear hr
    go_wp2_with (first
      | (go_at_call 47; refine (aclears_is HClr.out HD.out HV.out V).mono ?_; rintro r3 w3 ⟨rfl, k3⟩; have K3 := Lib.hid (K2.out.1.below k3); clear c0 c1 c2 c3 c4 c5 c6 x3; obtain ⟨⟨c0, c1, c2, c3, c4, c5, c6⟩, -, -, -, -, -⟩ := K3.out.cells)
      | (go_at_call 46; refine (lend_any ⟨y, p, q, h, s⟩ D false w3).mono ?_; rintro r4 w4 ⟨rfl, k4⟩; have K4 := Lib.hid (K3.out.below k4); clear c0 c1 c2 c3 c4 c5 c6; obtain ⟨-, -, ⟨o0, o1, o2, o3, o4, o5, o6⟩, ⟨g0, g1, g2, g3, g4, g5, g6⟩, -, -⟩ := K4.out.cells))
    refine bodyPost_ret (v := lpv ⟨y, p, q, h, s⟩ D true) (by simp [results, Tryz.results24, go_sem, o0, o1, o2, o3, o4, o5, o6]) rfl ⟨by rw [HR.out], ?_⟩
    have hle := HB.out
    repeat refine Below.setCell ?_ (by simp <;> omega) _
    exact K4.out.low
  | false =>
    have hr := HGw.out
    rw [if_neg (by simp)] at hr
    have HGx := Lib.hid hr
    clear hr HGw
    go_upto_region 4 with (first
      | (go_at_call 47; refine (aclears_is HClr.out HD.out HV.out V).mono ?_; rintro r3 w3 ⟨rfl, k3⟩; have K3 := Lib.hid (⟨K2.out.1.below k3, K2.out.2.below K2.out.2.lt k3⟩ : PSt w w3 b0 pt ps ⟨y, p, q, h, s⟩ D false ∧ At w3 g b); clear c0 c1 c2 c3 c4 c5 c6 x3))
    clear K2
    obtain ⟨⟨c0, c1, c2, c3, c4, c5, c6⟩, -, -, -, m0, m1⟩ := K3.out.1.cells
    go_upto_region 5 with (first
      | (go_at_call 23; refine (HIn.out w3 K3.out.1.low).mono ?_; rintro r4 w4 ⟨rfl, k4⟩; have K4 := Lib.hid (⟨K3.out.1.below k4, K3.out.2.below K3.out.2.lt k4⟩ : PSt w w4 b0 pt ps ⟨y, p, q, h, s⟩ D false ∧ At w4 g b); clear c0 c1 c2 c3 c4 c5 c6 m0 m1))
    generalize hW3 : World.alloc w4 _ = V3
    obtain ⟨g3, hg3⟩ : ∃ g3, w4.heap.size = g3 := ⟨_, rfl⟩
    have k5 : Below w4.heap.size w4 V3 := by rw [← hW3]; exact ba1 _ _
    have z10 : Lies V3 g3 (lprow ⟨y2, p2, q2, h2, s2⟩ d2 e2) := by rw [← hW3, ← hg3]; exact Lies.new w4 _ _
    rw [hg3]
    have HG3 := Lib.hid (show b0 + 3 ≤ g3 ∧ g < g3 by rw [← hg3]; exact ⟨K4.out.1.lt, K4.out.2.lt⟩)
    have K5 := Lib.hid (⟨K4.out.1.below k5, K4.out.2.below K4.out.2.lt k5, z10⟩ : PSt w V3 b0 pt ps ⟨y, p, q, h, s⟩ D false ∧ At V3 g b ∧ Lies V3 g3 (lprow ⟨y2, p2, q2, h2, s2⟩ d2 e2))
    clear hW3 hg3 k5 z10 K4 K3
    obtain ⟨-, -, -, x3, -⟩ := K5.out.2.1
    obtain ⟨-, -, -, -, m0, m1⟩ := K5.out.1.cells
    go_upto_region 6 with (first
      | (go_at_call 48; refine (HBot.out V3 K5.out.1.low).mono ?_; rintro r6 w6 ⟨rfl, k6⟩; have K6 := Lib.hid (⟨K5.out.1.below k6, K5.out.2.1.below K5.out.2.1.lt k6, K5.out.2.2.below (by simp) k6⟩ : PSt w w6 b0 pt ps ⟨y, p, q, h, s⟩ D false ∧ At w6 g b ∧ Lies w6 g3 (lprow ⟨y2, p2, q2, h2, s2⟩ d2 e2)); clear m0 m1 x3))
    clear K5 HIn HBot
    go_cut [41] (fun tt wx => tt = .bool u ∧ Hid (PSt w wx b0 pt ps ⟨y, p, q, h, s⟩ D false ∧ At wx g b ∧ Lies wx g3 (lprow ⟨y2, p2, q2, h2, s2⟩ d2 e2)))
    case first =>
      cases ok with
      | false =>
        go_wp2_with fail
        go_meet
        exact ⟨by rw [← HU0.out]; rfl, K6⟩
      | true =>
        obtain ⟨c0, c1, c2, c3, c4, c5, c6⟩ := lpat_of K6.out.2.2
        go_wp2_with (first
          | (go_at_call 20; refine (gat_is HA.out.1 HA.out.2 w6).mono ?_; rintro r7 w7 ⟨rfl, k7⟩; have K7 := Lib.hid (⟨K6.out.1.below k7, K6.out.2.1.below K6.out.2.1.lt k7, K6.out.2.2.below (by simp) k7⟩ : PSt w w7 b0 pt ps ⟨y, p, q, h, s⟩ D false ∧ At w7 g b ∧ Lies w7 g3 (lprow ⟨y2, p2, q2, h2, s2⟩ d2 e2)); clear c0 c1 c2 c3 c4 c5 c6))
        go_meet
        exact ⟨by rw [← HU0.out]; rfl, K7⟩
    case rest =>
    obtain ⟨rfl, KC⟩ := hcut
    clear K6 HA HU0
    cases u with
    | true =>
      have hr := HGx.out
      rw [if_pos rfl] at hr
      have HR := Lib.hid hr
      clear hr
      obtain ⟨⟨c0, c1, c2, c3, c4, c5, c6⟩, -, -, -, -, -⟩ := KC.out.1.cells
      go_wp2_with (first
        | (go_at_call 46; refine (lend_any ⟨y, p, q, h, s⟩ D false _).mono ?_; rintro r8 w8 ⟨rfl, k8⟩; have K8 := Lib.hid (KC.out.1.below k8); clear c0 c1 c2 c3 c4 c5 c6; obtain ⟨-, -, ⟨o0, o1, o2, o3, o4, o5, o6⟩, ⟨g0, g1, g2, g3', g4, g5, g6⟩, -, -⟩ := K8.out.cells))
      refine bodyPost_ret (v := lpv ⟨y, p, q, h, s⟩ D true) (by simp [results, Tryz.results24, go_sem, o0, o1, o2, o3, o4, o5, o6]) rfl ⟨by rw [HR.out], ?_⟩
      have hle := HB.out
      repeat refine Below.setCell ?_ (by simp <;> omega) _
      exact K8.out.low
    | false =>
      have hr := HGx.out
      rw [if_neg (by simp)] at hr
      cases e2 with
      | true =>
        rw [if_pos rfl] at hr
        have HR := Lib.hid hr
        clear hr
        obtain ⟨c0, c1, c2, c3, c4, c5, c6⟩ := lpat_of KC.out.2.2
        obtain ⟨-, -, ⟨o0, o1, o2, o3, o4, o5, o6⟩, ⟨g0, g1, g2, g3', g4, g5, g6⟩, -, -⟩ := KC.out.1.cells
        go_wp2_with fail
        refine bodyPost_ret (v := lpv ⟨y2, p2, q2, h2, s2⟩ d2 true) (by simp [results, Tryz.results24, go_sem, o0, o1, o2, o3, o4, o5, o6]) rfl ⟨by rw [HR.out], ?_⟩
        have hle := HB.out
        repeat refine Below.setCell ?_ (by simp <;> omega) _
        exact KC.out.1.low
      | false =>
        rw [if_neg (by simp)] at hr
        have HR := Lib.hid hr
        clear hr
        obtain ⟨c0, c1, c2, c3, c4, c5, c6⟩ := lpat_of KC.out.2.2
        obtain ⟨-, -, -, -, -, -, -, -, x8, -⟩ := KC.out.2.1
        go_upto_region 10 with (first
          | (go_at_call 44; refine (gwith_is HW3.out _).mono ?_; rintro r8 w8 ⟨rfl, k8⟩; have K8 := Lib.hid (⟨KC.out.1.below k8, KC.out.2.2.below (by simp) k8⟩ : PSt w w8 b0 pt ps ⟨y, p, q, h, s⟩ D false ∧ Lies w8 g3 (lprow ⟨y2, p2, q2, h2, s2⟩ d2 false)); clear c0 c1 c2 c3 c4 c5 c6 x8; obtain ⟨c0, c1, c2, c3, c4, c5, c6⟩ := lpat_of K8.out.2; obtain ⟨f0, f1, f2, f3, f4, f5, f6⟩ := lkfr_of K8.out.2))
        generalize hU : World.setCell (World.setCell (World.setCell (World.setCell (World.setCell w8 _ _) _ _) _ _) _ _) _ _ = U
        have zU : PSt w U b0 pt ps ⟨y, p, q, h, s⟩ D false ∧ Lies U g3 (lprow ⟨y3, p3, q3, h3, s3⟩ d2 false) := by
          rw [← hU]
          exact ⟨K8.out.1.other HB.out (Save.five _ _ _ _ _ _ _) HG3.out.1, ((((K8.out.2.set 0 _ (by simp)).set 1 _ (by simp)).set 2 _ (by simp)).set 3 _ (by simp)).set 4 _ (by simp)⟩
        have KU := Lib.hid zU
        clear zU hU K8 KC c0 c1 c2 c3 c4 c5 c6 f0 f1 f2 f3 f4 f5 f6
        obtain ⟨c0, c1, c2, c3, c4, c5, c6⟩ := lpat_of KU.out.2
        obtain ⟨-, -, ⟨o0, o1, o2, o3, o4, o5, o6⟩, ⟨g0, g1, g2, g3', g4, g5, g6⟩, -, -⟩ := KU.out.1.cells
        go_wp2_with fail
        refine bodyPost_ret (v := lpv ⟨y3, p3, q3, h3, s3⟩ d2 false) (by simp [results, Tryz.results24, go_sem, o0, o1, o2, o3, o4, o5, o6]) rfl ⟨by rw [HR.out], ?_⟩
        have hle := HB.out
        repeat refine Below.setCell ?_ (by simp <;> omega) _
        exact KU.out.1.low

end Go.Proofs.YtfomhdhiibcdfaaGreat.Ahead
