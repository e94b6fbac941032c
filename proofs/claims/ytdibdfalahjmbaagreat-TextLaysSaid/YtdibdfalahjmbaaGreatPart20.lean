/- Texts of this proof that follow each other, in one file. -/
import Derived.Test.YtdibdfalahjmbaaGreatPart10
import Derived.Test.YtdibdfalahjmbaaGreatPart14
import Derived.Test.YtdibdfalahjmbaaGreatPart5
import Derived.Test.YtdibdfalahjmbaaGreatPart19
namespace Go.Proofs.YtdibdfalahjmbaaGreat.Line

open Go.RowKit Go.Sort Go.Proofs.YtdibdfalahjmbaaGreat.Rect Go.Proofs.YtdibdfalahjmbaaGreat.More Go.Proofs.YtdibdfalahjmbaaGreat.Shelf Go.Proofs.YtdibdfalahjmbaaGreat.Space Go.Proofs.YtdibdfalahjmbaaGreat.Place

set_option linter.unusedVariables false

set_option linter.unusedSimpArgs false

structure Ln where
  l : Int
  t : Int
  r : Int
  b : Int
  a : Int
  w : Int

abbrev zeroLn : Ln := ⟨0, 0, 0, 0, 0, 0⟩

abbrev Ln.v (x : Ln) : Value := .agg #[.int .i64 x.l, .int .i64 x.t, .int .i64 x.r, .int .i64 x.b, .int .i64 x.a, .int .i64 x.w]

abbrev lncells (x : Ln) : Array Value := #[.int .i64 x.l, .int .i64 x.t, .int .i64 x.r, .int .i64 x.b, .int .i64 x.a, .int .i64 x.w]

abbrev bldr (p : Addr) (f t y : Int) (x : Ln) : List Value := [.pointer (some p), .int .i64 f, .int .i64 t, .int .i64 y, .int .i64 x.l, .int .i64 x.t, .int .i64 x.r, .int .i64 x.b, .int .i64 x.a, .int .i64 x.w]

def BAt (w : World) (b : Nat) (p : Addr) (f t y : Int) (x : Ln) : Prop :=
  w.cell? ⟨b, 0, none⟩ = some (.pointer (some p)) ∧ w.cell? ⟨b, 1, none⟩ = some (.int .i64 f) ∧ w.cell? ⟨b, 2, none⟩ = some (.int .i64 t) ∧ w.cell? ⟨b, 3, none⟩ = some (.int .i64 y) ∧
  w.cell? ⟨b, 4, none⟩ = some (.int .i64 x.l) ∧ w.cell? ⟨b, 5, none⟩ = some (.int .i64 x.t) ∧ w.cell? ⟨b, 6, none⟩ = some (.int .i64 x.r) ∧ w.cell? ⟨b, 7, none⟩ = some (.int .i64 x.b) ∧ w.cell? ⟨b, 8, none⟩ = some (.int .i64 x.a) ∧ w.cell? ⟨b, 9, none⟩ = some (.int .i64 x.w)

theorem bat_of {w : World} {b : Nat} {p : Addr} {f t y : Int} {x : Ln} (h : RowAt w b (bldr p f t y x)) : BAt w b p f t y x :=
  ⟨h.at' 0, h.at' 1, h.at' 2, h.at' 3, h.at' 4, h.at' 5, h.at' 6, h.at' 7, h.at' 8, h.at' 9⟩

def LAt (w : World) (b : Nat) (x : Ln) : Prop :=
  w.cell? ⟨b, 0, none⟩ = some (.int .i64 x.l) ∧ w.cell? ⟨b, 1, none⟩ = some (.int .i64 x.t) ∧ w.cell? ⟨b, 2, none⟩ = some (.int .i64 x.r) ∧ w.cell? ⟨b, 3, none⟩ = some (.int .i64 x.b) ∧ w.cell? ⟨b, 4, none⟩ = some (.int .i64 x.a) ∧ w.cell? ⟨b, 5, none⟩ = some (.int .i64 x.w)

abbrev lnrow (x : Ln) : List Value := [.int .i64 x.l, .int .i64 x.t, .int .i64 x.r, .int .i64 x.b, .int .i64 x.a, .int .i64 x.w]

theorem lat_of {w : World} {b : Nat} {x : Ln} (h : RowAt w b (lnrow x)) : LAt w b x := ⟨h.at' 0, h.at' 1, h.at' 2, h.at' 3, h.at' 4, h.at' 5⟩

theorem two_of {w : World} {b : Nat} {x y : Int} (h : RowAt w b [.int .i64 x, .int .i64 y]) : w.cell? ⟨b, 0, none⟩ = some (.int .i64 x) ∧ w.cell? ⟨b, 1, none⟩ = some (.int .i64 y) ∧ w.frozen? ⟨b, 0, none⟩ = false ∧ w.frozen? ⟨b, 1, none⟩ = false := ⟨h.at' 0, h.at' 1, h.frz 0, h.frz 1⟩

abbrev two (x y : Int) : List Value := [.int .i64 x, .int .i64 y]

theorem rowAt_of {w : World} {b : Nat} {xs : List Value} {T : TypeId} (h : w.heap[b]? = some (.cells xs.toArray T (0, 0))) : RowAt w b xs := by
  refine ⟨fun o => ?_, fun o => frozen_of_row w b o _ _ h⟩
  rw [cell_of_row w b o _ _ _ h]
  simp

theorem but_one (w : World) (b o : Nat) (v : Value) : But (fun k => k = b) w (w.setCell ⟨b, o, none⟩ v) := But.set (S := fun k => k = b) b o v rfl

theorem but_wide {w w' : World} {F G : Nat → Prop} (h : But F w w') (hg : ∀ k, F k → G k) : But G w w' := ⟨h.os, h.tape, h.output, h.size, fun k hk hs => h.block k hk (fun q => hs (hg k q))⟩

theorem but_onto {w w' : World} {b : Nat} (h : But (fun k => k = b) w w') (o : Nat) (v : Value) : But (fun k => k = b) w (w'.setCell ⟨b, o, none⟩ v) := h.trans (but_one w' b o v) (fun _ _ h => h)

theorem but_six {w w' : World} {b : Nat} (h : But (fun k => k = b) w w') (o1 o2 o3 o4 o5 o6 : Nat) (v1 v2 v3 v4 v5 v6 : Value) : But (fun k => k = b) w ((((((w'.setCell ⟨b, o1, none⟩ v1).setCell ⟨b, o2, none⟩ v2).setCell ⟨b, o3, none⟩ v3).setCell ⟨b, o4, none⟩ v4).setCell ⟨b, o5, none⟩ v5).setCell ⟨b, o6, none⟩ v6) :=
  but_onto (but_onto (but_onto (but_onto (but_onto (but_onto h _ _) _ _) _ _) _ _) _ _) _ _

set_option maxHeartbeats 400000 in
theorem llen_is (a b d : Int) (hd : IntKind.i64.wrap (b - a) = d) (w : World) :
    Calls Tryz.prog 64 #[.agg #[.int .i64 a, .int .i64 b]] w fun e w' => e = .returned (.int .i64 d) ∧ Below w.heap.size w w' := by
  go_enter Tryz.func64, Tryz.ntmps64
  go_wp2_with fail
  go_ret
  exact ⟨rfl, ba1 _ _⟩

section

variable {S : World → (Nat → Prop) → Addr → List Fl → Prop}

set_option maxRecDepth 100000 in
set_option maxHeartbeats 1000000 in
theorem lfree_any (hO : SpaceOk S) (w : World) (F : Nat → Prop) (p : Addr) (fs : List Fl) (b : Nat) (f t y : Int) (x : Ln) (yy h : Int) (hs : S w F p fs) (h49 : fs.all near49 = true) (hb : RowAt w b (bldr p f t y x)) (hy : -4503599627370496 ≤ yy ∧ yy ≤ 4503599627370496) (hh : h ≤ 4503599627370496) :
    Calls Tryz.prog 76 #[.pointer (some ⟨b, 0, none⟩), .int .i64 yy, .int .i64 h] w fun e w' => e = .returned (.agg #[.int .i64 (freeL fs f yy h), .int .i64 (freeR fs t yy h)]) ∧ Below w.heap.size w w' := by
  have HRo := Lib.hid (fun w1 => hO.rows yy h w1 ⟨by omega, by omega⟩ (by omega))
  have hhz : highZ h ≤ 4503599627370496 := by unfold highZ; split <;> omega
  have HFr := Lib.hid (fun w1 (k : S w1 F p fs) => hO.free w1 F p fs f t yy (yy + highZ h) k (near49_near h49) (by omega) (by omega))
  rw [show max f (bandL fs yy (yy + highZ h)) = freeL fs f yy h from rfl, show min t (bandR fs yy (yy + highZ h)) = freeR fs t yy h from rfl] at HFr
  generalize freeL fs f yy h = L at *
  generalize freeR fs t yy h = R at *
  generalize yy + highZ h = yh at *
  have HS := Lib.hid hs
  have HB := Lib.hid hb
  clear hs h49 hb hy hh hhz
  go_enter Tryz.func76, Tryz.ntmps76
  go_upto_region 1 with fail
  generalize hW1 : World.alloc w _ = W
  obtain ⟨b0, hb0⟩ : ∃ b0, w.heap.size = b0 := ⟨_, rfl⟩
  have k1 : Below w.heap.size w W := by rw [← hW1]; exact ba1 _ _
  have z1 : RowAt W b0 (two 0 0) := by rw [← hW1, ← hb0]; exact RowAt.new w _ _
  have S1 := Lib.hid (⟨k1, z1, HB.out.below (by simp) k1, thruS hO HS.out k1⟩ : Below w.heap.size w W ∧ RowAt W b0 (two 0 0) ∧ RowAt W b (bldr p f t y x) ∧ S W F p fs)
  have hb0' : w.heap.size ≤ b0 := by omega
  rw [hb0]
  clear hW1 hb0 k1 z1 HS HB
  have HA := Lib.hid (fun w' (j : Below W.heap.size W w') => bat_of (S1.out.2.2.1.below (by simp) j))
  refine Hold.wp_region_hold [.val (.pointer (some ⟨b, 0, none⟩)), .val (.pointer (some ⟨b, 0, none⟩)), .val (.pointer (some ⟨b, 0, none⟩)), .val (.pointer (some p)), .val (.pointer (some ⟨b, 0, none⟩)), .val (.pointer (some ⟨b, 0, none⟩)), .val (.pointer (some ⟨b, 1, none⟩)), .val (.agg #[.int .i64 f, .int .i64 t]), .val (.int .i64 yy), .val (.int .i64 h), .val (.agg #[.int .i64 yy, .int .i64 yh]), .val (.agg #[.int .i64 L, .int .i64 R])] (by kernel_rfl) (by kernel_rfl) (by kernel_rfl) ?_ ?_
  · simp only [Hold.fill, Hold.Leave.value]
    refine ⟨?_, ?_, ?_, ?_, ?_, ?_, ?_, ?_, ?_, ?_, ?_, ?_, trivial⟩
    · intro gg w' hw hk
      go_simp
      exact ⟨rfl, rfl⟩
    · intro gg w' hw hk
      go_simp
      exact ⟨rfl, rfl⟩
    · intro gg w' hw hk
      go_simp
      exact ⟨rfl, rfl⟩
    · intro gg w' hw hk
      have q := (HA.out w' hw).1
      go_simp
      exact ⟨rfl, rfl⟩
    · intro gg w' hw hk
      go_simp
      exact ⟨rfl, rfl⟩
    · intro gg w' hw hk
      go_simp
      exact ⟨rfl, rfl⟩
    · intro gg w' hw hk
      go_simp
      exact ⟨rfl, rfl⟩
    · intro gg w' hw hk
      have q1 := (HA.out w' hw).2.1
      have q2 := (HA.out w' hw).2.2.1
      go_simp
      exact ⟨rfl, rfl⟩
    · intro gg w' hw hk
      go_simp
      exact ⟨rfl, rfl⟩
    · intro gg w' hw hk
      go_simp
      exact ⟨rfl, rfl⟩
    · intro gg w' hw hk
      go_simp
      exact Hold.stays_call (HRo.out w')
    · intro gg w' hw hk
      go_simp
      exact Hold.stays_call (HFr.out w' (thruS hO S1.out.2.2.2 hw))
  intro gg w2 k2 hgg
  clear hgg
  simp only [Hold.fill, Hold.Leave.value, List.length_cons, List.length_nil, List.drop_succ_cons, List.drop_zero]
  have K2 := Lib.hid (thru S1.out.1 k2)
  obtain ⟨q0, q1, q2, q3⟩ := two_of (S1.out.2.1.below (by simp) k2)
  clear k2 HA HFr HRo S1
  go_simp
  go_wp2_with fail
  exact bodyPost_ret (v := .agg #[.int .i64 L, .int .i64 R]) (by simp [results, Tryz.results76, go_sem, q0, q1]) rfl ⟨rfl, ((K2.out.setCell (p := ⟨b0, 0, none⟩) hb0' _).setCell (p := ⟨b0, 1, none⟩) hb0' _)⟩

set_option maxRecDepth 100000 in
set_option maxHeartbeats 1000000 in
theorem lbox_any (hO : SpaceOk S) (w : World) (F : Nat → Prop) (p : Addr) (fs : List Fl) (b : Nat) (f t y : Int) (x : Ln) (a z h : Int) (hd : z - a = h) (hs : S w F p fs) (h49 : fs.all near49 = true) (hb : RowAt w b (bldr p f t y x)) (hy : -4503599627370496 ≤ a ∧ a ≤ 4503599627370496) (hh : 0 ≤ h ∧ h ≤ 4503599627370496) :
    Calls Tryz.prog 66 #[.pointer (some ⟨b, 0, none⟩), .agg #[.int .i64 a, .int .i64 z]] w fun e w' => e = .returned (.agg #[.int .i64 (freeL fs f a h), .int .i64 a, .int .i64 (freeR fs t a h), .int .i64 z]) ∧ Below w.heap.size w w' := by
  have HLe := Lib.hid (fun w1 => llen_is a z h (by rw [IntWalk.i64_in _ (by omega)]; exact hd) w1)
  have HFr := Lib.hid (fun w1 (k : S w1 F p fs) (kb : RowAt w1 b (bldr p f t y x)) => lfree_any hO w1 F p fs b f t y x a h k h49 kb hy hh.2)
  generalize freeL fs f a h = L at *
  generalize freeR fs t a h = R at *
  have HS := Lib.hid hs
  have HB := Lib.hid hb
  clear hs h49 hb hy hh hd
  go_enter Tryz.func66, Tryz.ntmps66
  go_upto_region 1 with fail
  generalize hW1 : World.alloc w _ = W1
  obtain ⟨b0, hb0⟩ : ∃ b0, w.heap.size = b0 := ⟨_, rfl⟩
  have k1 : Below w.heap.size w W1 := by rw [← hW1]; exact ba1 _ _
  have s1 : W1.heap.size = b0 + 1 := by rw [← hW1, ← hb0]; simp
  have z1 : RowAt W1 b0 (two a z) := by rw [← hW1, ← hb0]; exact RowAt.new w _ _
  clear hW1
  generalize hW2 : World.alloc W1 _ = W
  have k2 : Below W1.heap.size W1 W := by rw [← hW2]; exact ba1 _ _
  have z2 : W.heap[b0 + 1]? = some (.cells #[.int .i64 0, .int .i64 0, .int .i64 0, .int .i64 0] 42) := by rw [← hW2, ← s1]; exact heap_alloc_new W1 _
  clear hW2
  rw [hb0]
  obtain ⟨b1, hb1⟩ : ∃ b1, b0 + 1 = b1 := ⟨_, rfl⟩
  rw [hb1] at s1 z2
  rw [hb1]
  have S1 := Lib.hid (⟨thru k1 k2, z1.below (by simp) k2, z2, HB.out.below (by simp) (thru k1 k2), thruS hO HS.out (thru k1 k2)⟩ : Below w.heap.size w W ∧ RowAt W b0 (two a z) ∧ W.heap[b1]? = some (.cells #[.int .i64 0, .int .i64 0, .int .i64 0, .int .i64 0] 42) ∧ RowAt W b (bldr p f t y x) ∧ S W F p fs)
  have hb2 : w.heap.size ≤ b1 := by omega
  clear hb0 hb1 k1 z1 k2 z2 s1 HS HB
  have HT := Lib.hid (fun w' (j : Below W.heap.size W w') => two_of (S1.out.2.1.below (by simp) j))
  refine Hold.wp_region_hold [.val (.pointer (some ⟨b, 0, none⟩)), .val (.pointer (some ⟨b0, 0, none⟩)), .val (.int .i64 a), .val (.agg #[.int .i64 a, .int .i64 z]), .val (.int .i64 h), .val (.agg #[.int .i64 L, .int .i64 R]), .val (.agg #[.int .i64 a, .int .i64 z]), .val (.agg #[.int .i64 L, .int .i64 a, .int .i64 R, .int .i64 z])] (by kernel_rfl) (by kernel_rfl) (by kernel_rfl) ?_ ?_
  · simp only [Hold.fill, Hold.Leave.value]
    refine ⟨?_, ?_, ?_, ?_, ?_, ?_, ?_, ?_, trivial⟩
    · intro gg w' hw hk
      go_simp
      exact ⟨rfl, rfl⟩
    · intro gg w' hw hk
      go_simp
      exact ⟨rfl, rfl⟩
    · intro gg w' hw hk
      have q := (HT.out w' hw).1
      go_simp
      exact ⟨rfl, rfl⟩
    · intro gg w' hw hk
      have q0 := (HT.out w' hw).1
      have q1 := (HT.out w' hw).2.1
      go_simp
      exact ⟨rfl, rfl⟩
    · intro gg w' hw hk
      go_simp
      exact Hold.stays_call (HLe.out w')
    · intro gg w' hw hk
      go_simp
      exact Hold.stays_call (HFr.out w' (thruS hO S1.out.2.2.2.2 hw) (S1.out.2.2.2.1.below (by simp) hw))
    · intro gg w' hw hk
      have q0 := (HT.out w' hw).1
      have q1 := (HT.out w' hw).2.1
      go_simp
      exact ⟨rfl, rfl⟩
    · intro gg w' hw hk
      go_simp
      exact Hold.stays_call (rof_any _ _ _ _ w')
  intro gg w2 k2 hgg
  clear hgg
  simp only [Hold.fill, Hold.Leave.value, List.length_cons, List.length_nil, List.drop_succ_cons, List.drop_zero]
  have K2 := Lib.hid (thru S1.out.1 k2)
  have r := (k2.block b1 (lt_of_block S1.out.2.2.1)).trans S1.out.2.2.1
  obtain ⟨r0, r1, r2, r3⟩ := R4.of_block r
  obtain ⟨q0, q1, q2, q3⟩ := free4 r
  clear k2 r HT HFr HLe S1
  go_simp
  go_wp2_with fail
  exact bodyPost_ret (v := .agg #[.int .i64 L, .int .i64 a, .int .i64 R, .int .i64 z]) (by simp [results, Tryz.results66, go_sem, r0, r1, r2, r3]) rfl ⟨rfl, ((((K2.out.setCell (p := ⟨b1, 0, none⟩) hb2 _).setCell (p := ⟨b1, 1, none⟩) hb2 _).setCell (p := ⟨b1, 2, none⟩) hb2 _).setCell (p := ⟨b1, 3, none⟩) hb2 _)⟩

def longLn (fs : List Fl) (f t : Int) (x : Ln) (z : Sz) : Ln := ⟨freeL fs f x.t (max x.b (x.t + z.ht) - x.t), x.t, freeR fs t x.t (max x.b (x.t + z.ht) - x.t), max x.b (x.t + z.ht), x.a + 1, x.w + z.wd⟩

abbrev zcells (z : Sz) : List Value := [.int .i64 z.wd, .int .i64 z.ht]

set_option maxRecDepth 100000 in
set_option maxHeartbeats 2000000 in
theorem llonger_any (hO : SpaceOk S) (w : World) (F : Nat → Prop) (p : Addr) (fs : List Fl) (b : Nat) (f t y : Int) (x0 : Ln) (x : Ln) (z : Sz) (hs : S w F p fs) (h49 : fs.all near49 = true) (hb : RowAt w b (bldr p f t y x0)) (hz : RightS z) (hx1 : -1125899906842624 ≤ x.t ∧ x.t ≤ 1125899906842624) (hx2 : x.t ≤ x.b ∧ x.b ≤ x.t + 2147483648) (hx3 : 0 ≤ x.a ∧ x.a ≤ 1000000) (hx4 : 0 ≤ x.w ∧ x.w ≤ 1125899906842624) :
    Calls Tryz.prog 62 #[.pointer (some ⟨b, 0, none⟩), x.v, .agg #[.int .i64 z.wd, .int .i64 z.ht]] w fun e w' => e = .returned (longLn fs f t x z).v ∧ Below w.heap.size w w' := by
  obtain ⟨hz1, hz2, hz3, hz4⟩ := hz
  obtain ⟨bb, hbb⟩ : ∃ bb, max x.b (x.t + z.ht) = bb := ⟨_, rfl⟩
  obtain ⟨hh, hhh⟩ : ∃ hh, bb - x.t = hh := ⟨_, rfl⟩
  have HBo := Lib.hid (fun w1 (k : S w1 F p fs) (kb : RowAt w1 b (bldr p f t y x0)) => lbox_any hO w1 F p fs b f t y x0 x.t bb hh hhh k h49 kb ⟨by omega, by omega⟩ ⟨by omega, by omega⟩)
  have e1 : IntKind.i64.wrap (x.t + z.ht) = x.t + z.ht := IntWalk.i64_in _ (by omega)
  have e2 : IntKind.i64.wrap (x.a + 1) = x.a + 1 := IntWalk.i64_in _ (by omega)
  have e3 : IntKind.i64.wrap (x.w + z.wd) = x.w + z.wd := IntWalk.i64_in _ (by omega)
  have HE := Lib.hid (⟨e1, e2, e3, hbb⟩ : IntKind.i64.wrap (x.t + z.ht) = x.t + z.ht ∧ IntKind.i64.wrap (x.a + 1) = x.a + 1 ∧ IntKind.i64.wrap (x.w + z.wd) = x.w + z.wd ∧ max x.b (x.t + z.ht) = bb)
  unfold longLn
  rw [hbb, hhh]
  generalize freeL fs f x.t hh = L at *
  generalize freeR fs t x.t hh = R at *
  have HS := Lib.hid hs
  have HB := Lib.hid hb
  clear hs h49 hb hz1 hz2 hz3 hz4 hx1 hx2 hx3 hx4 hbb hhh e1 e2 e3
  go_enter Tryz.func62, Tryz.ntmps62
  go_upto_region 1 with fail
  generalize hW1 : World.alloc w _ = W1
  obtain ⟨b0, hb0⟩ : ∃ b0, w.heap.size = b0 := ⟨_, rfl⟩
  have k1 : Below w.heap.size w W1 := by rw [← hW1]; exact ba1 _ _
  have s1 : W1.heap.size = b0 + 1 := by rw [← hW1, ← hb0]; simp
  have z1 : RowAt W1 b0 (lnrow x) := by rw [← hW1, ← hb0]; exact RowAt.new w _ _
  clear hW1
  generalize hW2 : World.alloc W1 _ = W2
  have k2 : Below W1.heap.size W1 W2 := by rw [← hW2]; exact ba1 _ _
  have s2 : W2.heap.size = b0 + 1 + 1 := by rw [← hW2, ← s1]; simp
  have z2 : RowAt W2 (b0 + 1) (zcells z) := by rw [← hW2, ← s1]; exact RowAt.new W1 _ _
  clear hW2
  generalize hW3 : World.alloc W2 _ = W
  have k3 : Below W2.heap.size W2 W := by rw [← hW3]; exact ba1 _ _
  have z3 : RowAt W (b0 + 1 + 1) (lnrow zeroLn) := by rw [← hW3, ← s2]; exact RowAt.new W2 _ _
  clear hW3
  rw [hb0]
  obtain ⟨b1, hb1⟩ : ∃ b1, b0 + 1 = b1 := ⟨_, rfl⟩
  obtain ⟨b2, hb2⟩ : ∃ b2, b1 + 1 = b2 := ⟨_, rfl⟩
  rw [hb1] at s1 z2 s2 z3
  rw [hb1]
  rw [hb2] at s2 z3
  rw [hb2]
  have S1 := Lib.hid (⟨thru (thru k1 k2) k3, z1.below (by simp) (thru k2 k3), z2.below (by simp) k3, z3, HB.out.below (by simp) (thru (thru k1 k2) k3), thruS hO HS.out (thru (thru k1 k2) k3)⟩ : Below w.heap.size w W ∧ RowAt W b0 (lnrow x) ∧ RowAt W b1 (zcells z) ∧ RowAt W b2 (lnrow zeroLn) ∧ RowAt W b (bldr p f t y x0) ∧ S W F p fs)
  have g2 : w.heap.size ≤ b2 := by omega
  clear hb0 hb1 hb2 k1 z1 k2 z2 s1 s2 k3 z3 HS HB
  obtain ⟨c0, c1, c2, c3, c4, c5⟩ := lat_of S1.out.2.1
  go_upto_region 2 with (first
    | (go_at_call 58; refine (rows_any _ _ _ _ _).mono ?_; rintro e w1 ⟨rfl, k1⟩; have K1 := Lib.hid k1; clear k1))
  clear c0 c1 c2 c3 c4 c5
  generalize hW4 : World.alloc w1 _ = W4
  obtain ⟨b3, hb3⟩ : ∃ b3, w1.heap.size = b3 := ⟨_, rfl⟩
  have k4 : Below w1.heap.size w1 W4 := by rw [← hW4]; exact ba1 _ _
  have z4 : RowAt W4 b3 (two x.t x.b) := by rw [← hW4, ← hb3]; exact RowAt.new w1 _ _
  have k5 : Below W.heap.size W W4 := thru K1.out k4
  have g3 : W.heap.size ≤ b3 := by have := K1.out.size; omega
  rw [hb3]
  clear hW4 hb3 k4 K1
  obtain ⟨q0, q1, q2, q3⟩ := two_of z4
  obtain ⟨d0, d1, -, -⟩ := two_of (S1.out.2.2.1.below (by simp) k5)
  have e1 := HE.out.1
  go_cut [18] (fun v wx => v = .int .i64 bb ∧ wx = W4.setCell ⟨b3, 1, none⟩ (.int .i64 bb))
  case first => as_aux_lemma =>
    have hbb := HE.out.2.2.2
    rcases Int.lt_or_le x.b (x.t + z.ht) with hq | hq
    · obtain rfl : x.t + z.ht = bb := by omega
      go_wp2_with fail
      all_goals (go_meet; exact ⟨rfl, rfl⟩)
    · obtain rfl : x.b = bb := by omega
      go_wp2_with fail
      all_goals (go_meet; exact ⟨rfl, rfl⟩)
  case rest =>
  obtain ⟨rfl, rfl⟩ := hcut
  have z5 : RowAt (W4.setCell ⟨b3, 1, none⟩ (.int .i64 bb)) b3 (two x.t bb) := z4.set 1 _ (by simp)
  have k6 : Below W.heap.size W (W4.setCell ⟨b3, 1, none⟩ (.int .i64 bb)) := k5.setCell (p := ⟨b3, 1, none⟩) g3 _
  clear q0 q1 q2 q3 d0 d1 e1 z4
  generalize W4.setCell ⟨b3, 1, none⟩ (.int .i64 bb) = V at *
  have S2 := Lib.hid (⟨thru S1.out.1 k6, S1.out.2.1.below (by simp) k6, S1.out.2.2.1.below (by simp) k6, S1.out.2.2.2.1.below (by simp) k6, S1.out.2.2.2.2.1.below (by simp) k6, thruS hO S1.out.2.2.2.2.2 k6, z5⟩ : Below w.heap.size w V ∧ RowAt V b0 (lnrow x) ∧ RowAt V b1 (zcells z) ∧ RowAt V b2 (lnrow zeroLn) ∧ RowAt V b (bldr p f t y x0) ∧ S V F p fs ∧ RowAt V b3 (two x.t bb))
  clear S1 k5 k6 g3 z5
  go_upto_region 3 with fail
  have HX := Lib.hid (fun w' (j : Below V.heap.size V w') => lat_of (S2.out.2.1.below (by simp) j))
  have HZ := Lib.hid (fun w' (j : Below V.heap.size V w') => two_of (S2.out.2.2.1.below (by simp) j))
  have HT := Lib.hid (fun w' (j : Below V.heap.size V w') => two_of (S2.out.2.2.2.2.2.2.below (by simp) j))
  refine Hold.wp_region_hold [.val (.pointer (some ⟨b, 0, none⟩)), .val (.agg #[.int .i64 x.t, .int .i64 bb]), .val (.agg #[.int .i64 L, .int .i64 x.t, .int .i64 R, .int .i64 bb]), .val (.pointer (some ⟨b0, 4, none⟩)), .val (.int .i64 x.a), .val (.int .i64 (x.a + 1)), .val (.pointer (some ⟨b0, 5, none⟩)), .val (.int .i64 x.w), .val (.pointer (some ⟨b1, 0, none⟩)), .val (.int .i64 z.wd), .val (.int .i64 (x.w + z.wd)), .val (.agg #[.int .i64 L, .int .i64 x.t, .int .i64 R, .int .i64 bb, .int .i64 (x.a + 1), .int .i64 (x.w + z.wd)])] (by kernel_rfl) (by kernel_rfl) (by kernel_rfl) ?_ ?_
  · simp only [Hold.fill, Hold.Leave.value]
    refine ⟨?_, ?_, ?_, ?_, ?_, ?_, ?_, ?_, ?_, ?_, ?_, ?_, trivial⟩
    · intro gg w' hw hk
      go_simp
      exact ⟨rfl, rfl⟩
    · intro gg w' hw hk
      have q0 := (HT.out w' hw).1
      have q1 := (HT.out w' hw).2.1
      go_simp
      exact ⟨rfl, rfl⟩
    · intro gg w' hw hk
      go_simp
      exact Hold.stays_call (HBo.out w' (thruS hO S2.out.2.2.2.2.2.1 hw) (S2.out.2.2.2.2.1.below (by simp) hw))
    · intro gg w' hw hk
      go_simp
      exact ⟨rfl, rfl⟩
    · intro gg w' hw hk
      have q := (HX.out w' hw).2.2.2.2.1
      go_simp
      exact ⟨rfl, rfl⟩
    · intro gg w' hw hk
      have q := HE.out.2.1
      go_simp
      exact ⟨rfl, rfl⟩
    · intro gg w' hw hk
      go_simp
      exact ⟨rfl, rfl⟩
    · intro gg w' hw hk
      have q := (HX.out w' hw).2.2.2.2.2
      go_simp
      exact ⟨rfl, rfl⟩
    · intro gg w' hw hk
      go_simp
      exact ⟨rfl, rfl⟩
    · intro gg w' hw hk
      have q := (HZ.out w' hw).1
      go_simp
      exact ⟨rfl, rfl⟩
    · intro gg w' hw hk
      have q := HE.out.2.2.1
      go_simp
      exact ⟨rfl, rfl⟩
    · intro gg w' hw hk
      go_simp
      exact ⟨rfl, rfl⟩
  intro gg w2 k2 hgg
  clear hgg
  simp only [Hold.fill, Hold.Leave.value, List.length_cons, List.length_nil, List.drop_succ_cons, List.drop_zero]
  have K2 := Lib.hid (thru S2.out.1 k2)
  have r := S2.out.2.2.2.1.below (by simp) k2
  obtain ⟨r0, r1, r2, r3, r4, r5⟩ := lat_of r
  have f0 := r.frz 0
  have f1 := r.frz 1
  have f2 := r.frz 2
  have f3 := r.frz 3
  have f4 := r.frz 4
  have f5 := r.frz 5
  clear k2 r HT HX HZ HBo S2
  go_simp
  go_wp2_with fail
  exact bodyPost_ret (v := .agg #[.int .i64 L, .int .i64 x.t, .int .i64 R, .int .i64 bb, .int .i64 (x.a + 1), .int .i64 (x.w + z.wd)]) (by simp [results, Tryz.results62, go_sem, r0, r1, r2, r3, r4, r5]) rfl ⟨rfl, ((((((K2.out.setCell (p := ⟨b2, 0, none⟩) g2 _).setCell (p := ⟨b2, 1, none⟩) g2 _).setCell (p := ⟨b2, 2, none⟩) g2 _).setCell (p := ⟨b2, 3, none⟩) g2 _).setCell (p := ⟨b2, 4, none⟩) g2 _).setCell (p := ⟨b2, 5, none⟩) g2 _)⟩

end

end Go.Proofs.YtdibdfalahjmbaaGreat.Line

namespace Go.Proofs.YtdibdfalahjmbaaGreat.Line

open Go.RowKit Go.Sort Go.Proofs.YtdibdfalahjmbaaGreat.Rect Go.Proofs.YtdibdfalahjmbaaGreat.More Go.Proofs.YtdibdfalahjmbaaGreat.Shelf Go.Proofs.YtdibdfalahjmbaaGreat.Space Go.Proofs.YtdibdfalahjmbaaGreat.Place

set_option linter.unusedVariables false

set_option linter.unusedSimpArgs false

theorem okL_same (fs : List Fl) (f t : Int) (z : Sz) (q : Int) : (decide (z.wd ≤ freeR fs t q z.ht - freeL fs f q z.ht) || (freeL fs f q z.ht == f && freeR fs t q z.ht == t)) = okL fs f t z q := by
  rw [Bool.eq_iff_iff, okL_iff]
  simp only [Bool.or_eq_true, Bool.and_eq_true, decide_eq_true_eq, beq_iff_eq]
  unfold freeL freeR
  omega

section

variable {S : World → (Nat → Prop) → Addr → List Fl → Prop}

set_option maxRecDepth 100000 in
set_option maxHeartbeats 1000000 in
theorem ltop1_any (hO : SpaceOk S) (w : World) (F : Nat → Prop) (p : Addr) (fs : List Fl) (b g1 g2 : Nat) (f t y : Int) (x : Ln) (z : Sz) (q : Int) (hs : S w F p fs) (h49 : fs.all near49 = true) (hb : RowAt w b (bldr p f t y x)) (h1 : w.cell? ⟨g1, 0, none⟩ = some (.pointer (some ⟨b, 0, none⟩))) (h2 : RowAt w g2 (zcells z)) (hz : RightS z) (hf : -4503599627370496 ≤ f ∧ f ≤ 4503599627370496) (ht : -4503599627370496 ≤ t ∧ t ≤ 4503599627370496) (hq : -4503599627370496 ≤ q ∧ q ≤ 4503599627370496) :
    Calls Tryz.prog 75 #[.int .i64 q, .pointer (some ⟨g1, 0, none⟩), .pointer (some ⟨g2, 0, none⟩)] w fun e w' => e = .returned (.bool (okL fs f t z q)) ∧ Below w.heap.size w w' := by
  have hz2 := hz.h2
  have HFr := Lib.hid (fun w1 (k : S w1 F p fs) (kb : RowAt w1 b (bldr p f t y x)) => lfree_any hO w1 F p fs b f t y x q z.ht k h49 kb hq (by omega))
  obtain ⟨v, hv⟩ : ∃ v, okL fs f t z q = v := ⟨_, rfl⟩
  rw [hv]
  rw [← okL_same] at hv
  obtain ⟨L1, L2⟩ := bandL_49 h49 q (q + highZ z.ht)
  obtain ⟨R1, R2⟩ := bandR_49 h49 q (q + highZ z.ht)
  have hL1 : -4503599627370496 ≤ freeL fs f q z.ht ∧ freeL fs f q z.ht ≤ 4503599627370496 := by unfold freeL; omega
  have hR1 : -4503599627370496 ≤ freeR fs t q z.ht ∧ freeR fs t q z.ht ≤ 4503599627370496 := by unfold freeR; omega
  generalize freeL fs f q z.ht = L at *
  generalize freeR fs t q z.ht = R at *
  obtain ⟨d, hd⟩ : ∃ d, R - L = d := ⟨_, rfl⟩
  have HLd := Lib.hid (fun w => llen_is L R d (by rw [IntWalk.i64_in _ (by omega)]; exact hd) w)
  rw [hd] at hv
  obtain ⟨u, hu⟩ : ∃ u, (L == f && R == t) = u := ⟨_, rfl⟩
  rw [hu] at hv
  have HU := Lib.hid hu
  have HV := Lib.hid hv
  have HS := Lib.hid hs
  have HB := Lib.hid hb
  have HC := Lib.hid (⟨h1, h2⟩ : w.cell? ⟨g1, 0, none⟩ = some (.pointer (some ⟨b, 0, none⟩)) ∧ RowAt w g2 (zcells z))
  have HC1 := Lib.hid (fun w' (j : Below w.heap.size w w') => (j.cell (p := ⟨g1, 0, none⟩) (block_lt_of_cell h1)).trans h1)
  have HC2 := Lib.hid (fun w' (j : Below w.heap.size w w') => two_of (h2.below (by simp) j))
  clear hs h49 hb h1 h2 hz hz2 hf ht hq L1 L2 R1 R2 hL1 hR1 hd hu hv
  go_enter Tryz.func75, Tryz.ntmps75
  have c1 := HC.out.1
  obtain ⟨d0, d1, -, -⟩ := two_of HC.out.2
  go_upto_region 2 with (first
    | (go_at_call 76; refine (HFr.out _ HS.out HB.out).mono ?_; rintro e w1 ⟨rfl, k1⟩; have K1 := Lib.hid k1; clear k1))
  clear c1 d0 d1
  generalize hW : World.alloc w1 _ = W
  obtain ⟨b3, hb3⟩ : ∃ b3, w1.heap.size = b3 := ⟨_, rfl⟩
  have k4 : Below w1.heap.size w1 W := by rw [← hW]; exact ba1 _ _
  have z4 : RowAt W b3 (two L R) := by rw [← hW, ← hb3]; exact RowAt.new w1 _ _
  have S1 := Lib.hid (⟨thru K1.out k4, HB.out.below (by simp) (thru K1.out k4), z4⟩ : Below w.heap.size w W ∧ RowAt W b (bldr p f t y x) ∧ RowAt W b3 (two L R))
  rw [hb3]
  clear hW hb3 k4 z4 K1 HB HC HS HFr
  have HA := Lib.hid (fun w' (j : Below W.heap.size W w') => bat_of (S1.out.2.1.below (by simp) j))
  have HT := Lib.hid (fun w' (j : Below W.heap.size W w') => two_of (S1.out.2.2.below (by simp) j))
  have HG := Lib.hid (fun w' (j : Below W.heap.size W w') => HC1.out w' (thru S1.out.1 j))
  have HZ := Lib.hid (fun w' (j : Below W.heap.size W w') => HC2.out w' (thru S1.out.1 j))
  by_cases hle : z.wd ≤ d
  · have HL := Lib.hid hle
    have hvt : v = true := by rw [← HV.out, decide_eq_true hle]; rfl
    subst hvt
    clear hle HV
    refine HoldAll.wp_region_hold_all [.val (.pointer (some ⟨g2, 0, none⟩)), .val (.int .i64 z.wd), .val (.agg #[.int .i64 L, .int .i64 R]), .val (.int .i64 d), .val (.bool true), .val (.bool true), .skip, .skip, .skip, .skip, .skip, .skip, .val (.bool true), .val (.bool true)] (by kernel_rfl) (by kernel_rfl) (by kernel_rfl) ?_ ?_
    · simp only [Hold.fill, Hold.Leave.value]
      refine ⟨?_, ?_, ?_, ?_, ?_, ?_, trivial, trivial, trivial, trivial, trivial, trivial, ?_, ?_, trivial⟩
      · intro gg w' hw hk
        go_simp
        exact ⟨rfl, rfl⟩
      · intro gg w' hw hk
        have q := (HZ.out w' hw).1
        go_simp
        exact ⟨rfl, rfl⟩
      · intro gg w' hw hk
        have q0 := (HT.out w' hw).1
        have q1 := (HT.out w' hw).2.1
        go_simp
        exact ⟨rfl, rfl⟩
      · intro gg w' hw hk
        go_simp
        exact Hold.stays_call (HLd.out w')
      · intro gg w' hw hk
        have q := HL.out
        go_simp
        exact ⟨rfl, rfl⟩
      · intro gg w' hw hk
        go_simp
        exact ⟨rfl, rfl⟩
      · intro gg w' hw hk
        go_simp
        exact ⟨rfl, rfl⟩
      · intro gg w' hw hk
        go_simp
        exact ⟨rfl, rfl⟩
    intro gg w2 k2 hgg
    clear hgg
    simp only [Hold.fill, Hold.Leave.value]
    have K2 := Lib.hid (thru S1.out.1 k2)
    clear k2
    go_simp
    go_wp2_with fail
    go_ret
    exact ⟨rfl, K2.out⟩
  · have HL := Lib.hid hle
    have hvt : u = v := by rw [← HV.out, decide_eq_false hle]; rfl
    subst hvt
    clear hle HV
    refine HoldAll.wp_region_hold_all [.val (.pointer (some ⟨g2, 0, none⟩)), .val (.int .i64 z.wd), .val (.agg #[.int .i64 L, .int .i64 R]), .val (.int .i64 d), .val (.bool false), .val (.bool false), .val (.agg #[.int .i64 L, .int .i64 R]), .val (.pointer (some ⟨b, 0, none⟩)), .val (.pointer (some ⟨b, 0, none⟩)), .val (.pointer (some ⟨b, 1, none⟩)), .val (.agg #[.int .i64 f, .int .i64 t]), .val (.bool u), .val (.bool u), .val (.bool u)] (by kernel_rfl) (by kernel_rfl) (by kernel_rfl) ?_ ?_
    · simp only [Hold.fill, Hold.Leave.value]
      refine ⟨?_, ?_, ?_, ?_, ?_, ?_, ?_, ?_, ?_, ?_, ?_, ?_, ?_, ?_, trivial⟩
      · intro gg w' hw hk
        go_simp
        exact ⟨rfl, rfl⟩
      · intro gg w' hw hk
        have q := (HZ.out w' hw).1
        go_simp
        exact ⟨rfl, rfl⟩
      · intro gg w' hw hk
        have q0 := (HT.out w' hw).1
        have q1 := (HT.out w' hw).2.1
        go_simp
        exact ⟨rfl, rfl⟩
      · intro gg w' hw hk
        go_simp
        exact Hold.stays_call (HLd.out w')
      · intro gg w' hw hk
        have q := HL.out
        go_simp
        exact ⟨rfl, rfl⟩
      · intro gg w' hw hk
        go_simp
        exact ⟨rfl, rfl⟩
      · intro gg w' hw hk
        have q0 := (HT.out w' hw).1
        have q1 := (HT.out w' hw).2.1
        go_simp
        exact ⟨rfl, rfl⟩
      · intro gg w' hw hk
        have q := HG.out w' hw
        go_simp
        exact ⟨rfl, rfl⟩
      · intro gg w' hw hk
        go_simp
        exact ⟨rfl, rfl⟩
      · intro gg w' hw hk
        go_simp
        exact ⟨rfl, rfl⟩
      · intro gg w' hw hk
        have q1 := (HA.out w' hw).2.1
        have q2 := (HA.out w' hw).2.2.1
        go_simp
        exact ⟨rfl, rfl⟩
      · intro gg w' hw hk
        go_simp
        have hu := HU.out
        clear HU HLd
        cases u <;> by_cases e1 : L = f <;> by_cases e2 : R = t <;> simp_all <;> exact ⟨rfl, rfl⟩
      · intro gg w' hw hk
        go_simp
        exact ⟨rfl, rfl⟩
      · intro gg w' hw hk
        go_simp
        exact ⟨rfl, rfl⟩
    intro gg w2 k2 hgg
    clear hgg
    simp only [Hold.fill, Hold.Leave.value]
    have K2 := Lib.hid (thru S1.out.1 k2)
    clear k2
    go_simp
    go_wp2_with fail
    go_ret
    exact ⟨rfl, K2.out⟩

set_option maxRecDepth 100000 in
set_option maxHeartbeats 1000000 in
theorem ltop_any (hO : SpaceOk S) (w : World) (F : Nat → Prop) (p : Addr) (fs : List Fl) (b : Nat) (f t y : Int) (x : Ln) (z : Sz) (hs : S w F p fs) (h49 : fs.all near49 = true) (hb : RowAt w b (bldr p f t y x)) (hz : RightS z) (hf : -4503599627370496 ≤ f ∧ f ≤ 4503599627370496) (ht : -4503599627370496 ≤ t ∧ t ≤ 4503599627370496) (hy : inS y = true) :
    Calls Tryz.prog 61 #[.pointer (some ⟨b, 0, none⟩), .agg #[.int .i64 z.wd, .int .i64 z.ht]] w fun e w' => e = .returned (.int .i64 (topL fs f t z y)) ∧ Below w.heap.size w w' := by
  have HFi := Lib.hid (fun w1 (g1 g2 : Nat) (k : S w1 F p fs) (kb : RowAt w1 b (bldr p f t y x)) (h1 : w1.cell? ⟨g1, 0, none⟩ = some (.pointer (some ⟨b, 0, none⟩))) (h2 : RowAt w1 g2 (zcells z)) => hO.first w1 F p fs y 75 #[.pointer (some ⟨g1, 0, none⟩), .pointer (some ⟨g2, 0, none⟩)] (okL fs f t z) (fun w2 _ => Below w1.heap.size w1 w2) k (near49_near h49) hy
    (enters_of Tryz.func75 (by kernel_rfl) rfl) (Below.refl _ _) (fun w2 w3 _ q1 q2 => thru q1 q2) (fun w2 pre q hs hk hq _ => by
      have hq' := inS_iff.1 hq
      rw [show (#[.int .i64 q] ++ #[.pointer (some ⟨g1, 0, none⟩), .pointer (some ⟨g2, 0, none⟩)] : Array Value) = #[.int .i64 q, .pointer (some ⟨g1, 0, none⟩), .pointer (some ⟨g2, 0, none⟩)] by simp]
      refine (ltop1_any hO w2 F p fs b g1 g2 f t y x z q hs h49 (kb.below (by simp) hk) ((hk.cell (p := ⟨g1, 0, none⟩) (block_lt_of_cell h1)).trans h1) (h2.below (by simp) hk) hz hf ht ⟨by omega, by omega⟩).mono ?_
      rintro e w' ⟨rfl, k2⟩
      exact ⟨rfl, thruS hO hs k2, thru hk k2⟩))
  rw [show atD (okL fs f t z) (topsD fs y) = topL fs f t z y from rfl] at HFi
  generalize topL fs f t z y = tp at *
  have HS := Lib.hid hs
  have HB := Lib.hid hb
  clear hs h49 hb hz hf ht hy
  go_enter Tryz.func61, Tryz.ntmps61
  go_upto_region 1 with fail
  generalize hW1 : World.alloc w _ = W1
  obtain ⟨b0, hb0⟩ : ∃ b0, w.heap.size = b0 := ⟨_, rfl⟩
  have k1 : Below w.heap.size w W1 := by rw [← hW1]; exact ba1 _ _
  have s1 : W1.heap.size = b0 + 1 := by rw [← hW1, ← hb0]; simp
  have z1 : W1.cell? ⟨b0, 0, none⟩ = some (.pointer (some ⟨b, 0, none⟩)) := by rw [← hW1, ← hb0]; simp [go_sem]
  clear hW1
  generalize hW2 : World.alloc W1 _ = W
  have k2 : Below W1.heap.size W1 W := by rw [← hW2]; exact ba1 _ _
  have z2 : RowAt W (b0 + 1) (zcells z) := by rw [← hW2, ← s1]; exact RowAt.new W1 _ _
  clear hW2
  rw [hb0]
  obtain ⟨b1, hb1⟩ : ∃ b1, b0 + 1 = b1 := ⟨_, rfl⟩
  rw [hb1] at s1 z2
  rw [hb1]
  have S1 := Lib.hid (⟨thru k1 k2, (k2.cell (p := ⟨b0, 0, none⟩) (by show b0 < _; omega)).trans z1, z2, HB.out.below (by simp) (thru k1 k2), thruS hO HS.out (thru k1 k2)⟩ : Below w.heap.size w W ∧ W.cell? ⟨b0, 0, none⟩ = some (.pointer (some ⟨b, 0, none⟩)) ∧ RowAt W b1 (zcells z) ∧ RowAt W b (bldr p f t y x) ∧ S W F p fs)
  clear hb0 hb1 k1 z1 k2 z2 s1 HS HB
  have HA := Lib.hid (fun w' (j : Below W.heap.size W w') => bat_of (S1.out.2.2.2.1.below (by simp) j))
  have HG := Lib.hid (fun w' (j : Below W.heap.size W w') => (j.cell (p := ⟨b0, 0, none⟩) (block_lt_of_cell S1.out.2.1)).trans S1.out.2.1)
  refine HoldAll.wp_region_hold_all [.val (.pointer (some ⟨b, 0, none⟩)), .val (.pointer (some ⟨b, 0, none⟩)), .val (.pointer (some ⟨b, 0, none⟩)), .val (.pointer (some p)), .val (.pointer (some ⟨b, 0, none⟩)), .val (.pointer (some ⟨b, 0, none⟩)), .val (.pointer (some ⟨b, 3, none⟩)), .val (.int .i64 y), .val (.func (.func 75) #[] #[.pointer (some ⟨b0, 0, none⟩), .pointer (some ⟨b1, 0, none⟩)]), .val (.int .i64 tp), .val (.int .i64 tp)] (by kernel_rfl) (by kernel_rfl) (by kernel_rfl) ?_ ?_
  · simp only [Hold.fill, Hold.Leave.value]
    refine ⟨?_, ?_, ?_, ?_, ?_, ?_, ?_, ?_, ?_, ?_, ?_, trivial⟩
    · intro gg w' hw hk
      have q := HG.out w' hw
      go_simp
      exact ⟨rfl, rfl⟩
    · intro gg w' hw hk
      go_simp
      exact ⟨rfl, rfl⟩
    · intro gg w' hw hk
      go_simp
      exact ⟨rfl, rfl⟩
    · intro gg w' hw hk
      have q := (HA.out w' hw).1
      go_simp
      exact ⟨rfl, rfl⟩
    · intro gg w' hw hk
      have q := HG.out w' hw
      go_simp
      exact ⟨rfl, rfl⟩
    · intro gg w' hw hk
      go_simp
      exact ⟨rfl, rfl⟩
    · intro gg w' hw hk
      go_simp
      exact ⟨rfl, rfl⟩
    · intro gg w' hw hk
      have q := (HA.out w' hw).2.2.2.1
      go_simp
      exact ⟨rfl, rfl⟩
    · intro gg w' hw hk
      go_simp
      exact ⟨rfl, rfl⟩
    · intro gg w' hw hk
      go_simp
      exact Hold.stays_call ((HFi.out w' b0 b1 (thruS hO S1.out.2.2.2.2 hw) (S1.out.2.2.2.1.below (by simp) hw) (HG.out w' hw) (S1.out.2.2.1.below (by simp) hw)).mono (fun e w'' hh => ⟨hh.1, hh.2.2⟩))
    · intro gg w' hw hk
      go_simp
      exact ⟨rfl, rfl⟩
  intro gg w2 k2 hgg
  clear hgg
  simp only [Hold.fill, Hold.Leave.value]
  have K2 := Lib.hid (thru S1.out.1 k2)
  clear k2
  go_simp
  go_wp2_with fail
  go_ret
  exact ⟨rfl, K2.out⟩

end

end Go.Proofs.YtdibdfalahjmbaaGreat.Line

namespace Go.Proofs.YtdibdfalahjmbaaGreat.Line

open Go.RowKit Go.Sort Go.Proofs.YtdibdfalahjmbaaGreat.Rect Go.Proofs.YtdibdfalahjmbaaGreat.More Go.Proofs.YtdibdfalahjmbaaGreat.Shelf Go.Proofs.YtdibdfalahjmbaaGreat.Space Go.Proofs.YtdibdfalahjmbaaGreat.Place

set_option linter.unusedVariables false

set_option linter.unusedSimpArgs false

def Stands (m : Mk) (x : Ln) : Prop := (m.az = [] ∧ x = zeroLn) ∨ (m.az ≠ [] ∧ x.t = m.top ∧ x.b = m.b ∧ x.a = m.az.length ∧ x.w = wideL m.az)

def Bl (w : World) (p : Addr) (b : Nat) (m : Mk) : Prop := ∃ x, RowAt w b (bldr p m.f m.t m.y x) ∧ Stands m x

def lnOf (m : Mk) : Ln := ⟨m.l, m.top, m.r, m.b, m.az.length, wideL m.az⟩

theorem Bl.lt {w : World} {p : Addr} {b : Nat} {m : Mk} (h : Bl w p b m) : b < w.heap.size := by
  obtain ⟨x, h, -⟩ := h
  exact h.lt (by simp)

theorem Bl.but {w w' : World} {p : Addr} {b : Nat} {m : Mk} {G : Nat → Prop} (h : Bl w p b m) (k : But G w w') (hG : ¬ G b) : Bl w' p b m := by
  obtain ⟨x, h, s⟩ := h
  exact ⟨x, h.but (by simp) k hG, s⟩

theorem Bl.below {w w' : World} {p : Addr} {b : Nat} {m : Mk} (h : Bl w p b m) (k : Below w.heap.size w w') : Bl w' p b m := by
  obtain ⟨x, h, s⟩ := h
  exact ⟨x, h.below (by simp) k, s⟩

structure Fine (m : Mk) : Prop where
  h49 : m.fs.all near49 = true
  f1 : -4503599627370496 ≤ m.f
  f2 : m.f ≤ 4503599627370496
  t1 : -4503599627370496 ≤ m.t
  t2 : m.t ≤ 4503599627370496
  y1 : -1125899906842624 ≤ m.y
  y2 : m.y ≤ 1125899906842624
  ha : ∀ z ∈ m.az, RightS z
  hl : m.az.length ≤ 100000
  p1 : m.az ≠ [] → -1125899906842624 ≤ m.top
  p2 : m.az ≠ [] → m.top ≤ 1125899906842624

theorem lnew_any (w : World) (p : Addr) (f t y : Int) : Calls Tryz.prog 16 #[.pointer (some p), .agg #[.int .i64 f, .int .i64 t], .int .i64 y] w fun e w' => (∃ b, e = .returned (.pointer (some ⟨b, 0, none⟩)) ∧ w.heap.size ≤ b ∧ ∀ fs top, Bl w' p b ⟨fs, f, t, y, top, []⟩) ∧ Below w.heap.size w w' := by
  go_enter Tryz.func16, Tryz.ntmps16
  go_upto_region 1 with fail
  generalize hW1 : World.alloc w _ = W
  obtain ⟨b0, hb0⟩ : ∃ b0, w.heap.size = b0 := ⟨_, rfl⟩
  have k1 : Below w.heap.size w W := by rw [← hW1]; exact ba1 _ _
  have z1 : RowAt W b0 (two f t) := by rw [← hW1, ← hb0]; exact RowAt.new w _ _
  rw [hb0]
  obtain ⟨q0, q1, -, -⟩ := two_of z1
  have S1 := Lib.hid k1
  clear hW1 hb0 k1 z1
  go_wp2_with fail
  refine bodyPost_ret (v := .pointer (some ⟨W.heap.size, 0, none⟩)) (by simp [results, Tryz.results16, go_sem]) rfl ⟨⟨_, rfl, S1.out.size, fun fs top => ⟨zeroLn, RowAt.new W _ _, .inl ⟨rfl, rfl⟩⟩⟩, thru S1.out (ba1 _ _)⟩

section

variable {S : World → (Nat → Prop) → Addr → List Fl → Prop}

set_option maxRecDepth 100000 in
set_option maxHeartbeats 1000000 in
theorem lnow_no (w : World) (p : Addr) (b : Nat) (m : Mk) (hb : Bl w p b m) (hm : m.az = []) :
    Calls Tryz.prog 46 #[.pointer (some ⟨b, 0, none⟩)] w fun e w' => e = .returned (.tuple #[zeroLn.v, .bool false]) ∧ Below w.heap.size w w' := by
  have HB : Hid (RowAt w b (bldr p m.f m.t m.y zeroLn)) := Lib.hid (by
    obtain ⟨x, h, s | s⟩ := hb
    · rw [← s.2]; exact h
    · exact absurd hm s.1)
  clear hb hm
  go_enter Tryz.func46, Tryz.ntmps46
  go_upto_region 1 with fail
  generalize hW1 : World.alloc w _ = W
  obtain ⟨b0, hb0⟩ : ∃ b0, w.heap.size = b0 := ⟨_, rfl⟩
  have k1 : Below w.heap.size w W := by rw [← hW1]; exact ba1 _ _
  have z1 : RowAt W b0 (lnrow zeroLn) := by rw [← hW1, ← hb0]; exact RowAt.new w _ _
  have hb1 : w.heap.size ≤ b0 := by omega
  rw [hb0]
  have S1 := Lib.hid (⟨k1, HB.out.below (by simp) k1⟩ : Below w.heap.size w W ∧ RowAt W b (bldr p m.f m.t m.y zeroLn))
  obtain ⟨c0, c1, c2, c3, c4, c5, c6, c7, c8, c9⟩ := bat_of S1.out.2
  obtain ⟨r0, r1, r2, r3, r4, r5⟩ := lat_of z1
  have f0 := z1.frz 0
  have f1 := z1.frz 1
  have f2 := z1.frz 2
  have f3 := z1.frz 3
  have f4 := z1.frz 4
  have f5 := z1.frz 5
  clear hW1 hb0 k1 z1 HB
  go_wp2_with fail
  exact bodyPost_ret (v := .tuple #[zeroLn.v, .bool false]) (by simp [results, Tryz.results46, go_sem, r0, r1, r2, r3, r4, r5]) rfl ⟨rfl, ((((((S1.out.1.setCell (p := ⟨b0, 0, none⟩) hb1 _).setCell (p := ⟨b0, 1, none⟩) hb1 _).setCell (p := ⟨b0, 2, none⟩) hb1 _).setCell (p := ⟨b0, 3, none⟩) hb1 _).setCell (p := ⟨b0, 4, none⟩) hb1 _).setCell (p := ⟨b0, 5, none⟩) hb1 _)⟩

set_option maxRecDepth 100000 in
set_option maxHeartbeats 1000000 in
theorem lnow_some (hO : SpaceOk S) (w : World) (F : Nat → Prop) (p : Addr) (b : Nat) (m : Mk) (hs : S w F p m.fs) (hb : Bl w p b m) (hm : m.az ≠ []) (hf : Fine m) :
    Calls Tryz.prog 46 #[.pointer (some ⟨b, 0, none⟩)] w fun e w' => e = .returned (.tuple #[(lnOf m).v, .bool true]) ∧ Below w.heap.size w w' := by
  have hhi := highL_b hf.ha
  have htop := (⟨hf.p1 hm, hf.p2 hm⟩ : -1125899906842624 ≤ m.top ∧ m.top ≤ 1125899906842624)
  have hex : ∃ x, RowAt w b (bldr p m.f m.t m.y x) ∧ x.t = m.top ∧ x.b = m.b ∧ x.a = m.az.length ∧ x.w = wideL m.az ∧ ¬ x.a = 0 := by
    obtain ⟨x, h, s | s⟩ := hb
    · exact absurd s.1 hm
    · refine ⟨x, h, s.2.1, s.2.2.1, s.2.2.2.1, s.2.2.2.2, ?_⟩
      have := List.length_pos_iff.2 hm
      have := s.2.2.2.1
      omega
  obtain ⟨x, hx, e1, e2, e3, e4, e5⟩ := hex
  have HBo := Lib.hid (fun w1 (k : S w1 F p m.fs) (kb : RowAt w1 b (bldr p m.f m.t m.y x)) => lbox_any hO w1 F p m.fs b m.f m.t m.y x m.top m.b (highL m.az) (by unfold Mk.b; omega) k hf.h49 kb ⟨by omega, by omega⟩ ⟨by omega, by omega⟩)
  rw [show freeL m.fs m.f m.top (highL m.az) = m.l from rfl, show freeR m.fs m.t m.top (highL m.az) = m.r from rfl] at HBo
  unfold lnOf
  rw [← e3, ← e4]
  rw [← e1, ← e2] at HBo
  rw [← e1, ← e2]
  generalize m.l = L at *
  generalize m.r = R at *
  have HS := Lib.hid hs
  have HB := Lib.hid hx
  clear hs hb hm hf hhi htop hx e1 e2 e3 e4
  go_enter Tryz.func46, Tryz.ntmps46
  go_upto_region 1 with fail
  generalize hW1 : World.alloc w _ = W
  obtain ⟨b0, hb0⟩ : ∃ b0, w.heap.size = b0 := ⟨_, rfl⟩
  have k1 : Below w.heap.size w W := by rw [← hW1]; exact ba1 _ _
  have z1 : RowAt W b0 (lnrow zeroLn) := by rw [← hW1, ← hb0]; exact RowAt.new w _ _
  have hb1 : w.heap.size ≤ b0 := by omega
  rw [hb0]
  have S1 := Lib.hid (⟨k1, HB.out.below (by simp) k1, z1, thruS hO HS.out k1⟩ : Below w.heap.size w W ∧ RowAt W b (bldr p m.f m.t m.y x) ∧ RowAt W b0 (lnrow zeroLn) ∧ S W F p m.fs)
  obtain ⟨c0, c1, c2, c3, c4, c5, c6, c7, c8, c9⟩ := bat_of S1.out.2.1
  clear hW1 hb0 k1 z1 HB HS
  go_upto_region 4 with fail
  clear c0 c1 c2 c3 c4 c5 c6 c7 c8 c9
  generalize hW1 : World.alloc W _ = V
  obtain ⟨b1, hb2⟩ : ∃ b1, W.heap.size = b1 := ⟨_, rfl⟩
  have k1 : Below W.heap.size W V := by rw [← hW1]; exact ba1 _ _
  have z1 : RowAt V b1 (lnrow x) := by rw [← hW1, ← hb2]; exact RowAt.new W _ _
  have hb3 : w.heap.size ≤ b1 := by have := S1.out.1.size; omega
  have hne : b0 ≠ b1 := by have := S1.out.2.2.1.lt (by simp); omega
  rw [hb2]
  have S2 := Lib.hid (⟨thru S1.out.1 k1, S1.out.2.1.below (by simp) k1, S1.out.2.2.1.below (by simp) k1, thruS hO S1.out.2.2.2 k1, z1⟩ : Below w.heap.size w V ∧ RowAt V b (bldr p m.f m.t m.y x) ∧ RowAt V b0 (lnrow zeroLn) ∧ S V F p m.fs ∧ RowAt V b1 (lnrow x))
  obtain ⟨r0, r1, r2, r3, r4, r5⟩ := lat_of z1
  clear hW1 hb2 k1 z1 S1
  go_upto_region 5 with (first
    | (go_at_call 58; refine (rows_any _ _ _ _ _).mono ?_; rintro e w1 ⟨rfl, k1⟩; have K1 := Lib.hid k1; clear k1)
    | (go_at_call 66; refine (HBo.out _ (thruS hO S2.out.2.2.2.1 K1.out) (S2.out.2.1.below (by simp) K1.out)).mono ?_; rintro e w4 ⟨rfl, k2⟩; have z4 := S2.out.2.2.2.2.below (by simp) (thru K1.out k2); have S3 := Lib.hid (⟨thru S2.out.1 (thru K1.out k2), S2.out.2.2.1.below (by simp) (thru K1.out k2), z4⟩ : Below w.heap.size w w4 ∧ RowAt w4 b0 (lnrow zeroLn) ∧ RowAt w4 b1 (lnrow x)); have f0 := z4.frz 0; have f1 := z4.frz 1; have f2 := z4.frz 2; have f3 := z4.frz 3; clear r0 r1 r2 r3 r4 r5; obtain ⟨r0, r1, r2, r3, r4, r5⟩ := lat_of z4; clear k2 z4))
  clear r0 r1 r2 r3 r4 r5 f0 f1 f2 f3
  have z5 : RowAt ((((w4.setCell ⟨b1, 0, none⟩ (.int .i64 L)).setCell ⟨b1, 1, none⟩ (.int .i64 x.t)).setCell ⟨b1, 2, none⟩ (.int .i64 R)).setCell ⟨b1, 3, none⟩ (.int .i64 x.b)) b1 (lnrow ⟨L, x.t, R, x.b, x.a, x.w⟩) := (((S3.out.2.2.set 0 _ (by simp)).set 1 _ (by simp)).set 2 _ (by simp)).set 3 _ (by simp)
  have k5 : But (fun k => k = b1) w4 ((((w4.setCell ⟨b1, 0, none⟩ (.int .i64 L)).setCell ⟨b1, 1, none⟩ (.int .i64 x.t)).setCell ⟨b1, 2, none⟩ (.int .i64 R)).setCell ⟨b1, 3, none⟩ (.int .i64 x.b)) := but_onto (but_onto (but_onto (but_one w4 b1 0 _) 1 _) 2 _) 3 _
  generalize (((w4.setCell ⟨b1, 0, none⟩ (.int .i64 L)).setCell ⟨b1, 1, none⟩ (.int .i64 x.t)).setCell ⟨b1, 2, none⟩ (.int .i64 R)).setCell ⟨b1, 3, none⟩ (.int .i64 x.b) = X at *
  have z0 := S3.out.2.1.but (by simp) k5 hne
  have K5 := Lib.hid (S3.out.1.trans (k5.below S3.out.1.size (fun k e => by omega)))
  clear S3 k5
  obtain ⟨r0, r1, r2, r3, r4, r5⟩ := lat_of z5
  obtain ⟨s0, s1, s2, s3, s4, s5⟩ := lat_of z0
  have f0 := z0.frz 0
  have f1 := z0.frz 1
  have f2 := z0.frz 2
  have f3 := z0.frz 3
  have f4 := z0.frz 4
  have f5 := z0.frz 5
  clear z0 z5
  go_wp2_with fail
  exact bodyPost_ret (v := .tuple #[.agg #[.int .i64 L, .int .i64 x.t, .int .i64 R, .int .i64 x.b, .int .i64 x.a, .int .i64 x.w], .bool true]) (by simp [results, Tryz.results46, go_sem, s0, s1, s2, s3, s4, s5]) rfl ⟨rfl, ((((((K5.out.setCell (p := ⟨b0, 0, none⟩) hb1 _).setCell (p := ⟨b0, 1, none⟩) hb1 _).setCell (p := ⟨b0, 2, none⟩) hb1 _).setCell (p := ⟨b0, 3, none⟩) hb1 _).setCell (p := ⟨b0, 4, none⟩) hb1 _).setCell (p := ⟨b0, 5, none⟩) hb1 _)⟩

end

end Go.Proofs.YtdibdfalahjmbaaGreat.Line
