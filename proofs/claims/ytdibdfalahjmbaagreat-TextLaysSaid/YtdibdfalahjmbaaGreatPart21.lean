
import Derived.Test.YtdibdfalahjmbaaGreatPart20
import Derived.Test.YtdibdfalahjmbaaGreatPart18
namespace Go.Proofs.YtdibdfalahjmbaaGreat.Line

open Go.RowKit Go.Sort Go.Proofs.YtdibdfalahjmbaaGreat.Rect Go.Proofs.YtdibdfalahjmbaaGreat.More Go.Proofs.YtdibdfalahjmbaaGreat.Shelf Go.Proofs.YtdibdfalahjmbaaGreat.Space Go.Proofs.YtdibdfalahjmbaaGreat.Place

set_option linter.unusedVariables false

set_option linter.unusedSimpArgs false

theorem bldr_six {w : World} {b : Nat} {p : Addr} {f t y : Int} {x : Ln} (h : RowAt w b (bldr p f t y x)) (z : Ln) :
    RowAt ((((((w.setCell ⟨b, 4, none⟩ (.int .i64 z.l)).setCell ⟨b, 5, none⟩ (.int .i64 z.t)).setCell ⟨b, 6, none⟩ (.int .i64 z.r)).setCell ⟨b, 7, none⟩ (.int .i64 z.b)).setCell ⟨b, 8, none⟩ (.int .i64 z.a)).setCell ⟨b, 9, none⟩ (.int .i64 z.w)) b (bldr p f t y z) :=
  (((((h.set 4 _ (by simp)).set 5 _ (by simp)).set 6 _ (by simp)).set 7 _ (by simp)).set 8 _ (by simp)).set 9 _ (by simp)

theorem only_putL {T : TypeId} {w : World} {g : Nat} (z x : Ln) (h : w.heap[g]? = some (.cells (lncells z) T)) :
    ((((((w.setCell ⟨g, 0, none⟩ (.int .i64 x.l)).setCell ⟨g, 1, none⟩ (.int .i64 x.t)).setCell ⟨g, 2, none⟩ (.int .i64 x.r)).setCell ⟨g, 3, none⟩ (.int .i64 x.b)).setCell ⟨g, 4, none⟩ (.int .i64 x.a)).setCell ⟨g, 5, none⟩ (.int .i64 x.w)).heap[g]? = some (.cells (lncells x) T) ∧
    Draw.Only g w ((((((w.setCell ⟨g, 0, none⟩ (.int .i64 x.l)).setCell ⟨g, 1, none⟩ (.int .i64 x.t)).setCell ⟨g, 2, none⟩ (.int .i64 x.r)).setCell ⟨g, 3, none⟩ (.int .i64 x.b)).setCell ⟨g, 4, none⟩ (.int .i64 x.a)).setCell ⟨g, 5, none⟩ (.int .i64 x.w)) :=
  ⟨by simp [World.setCell, Array.getElem?_modify, h], ((((((Draw.Only.set g _ 0 _).trans (Draw.Only.set g _ 1 _)).trans (Draw.Only.set g _ 2 _)).trans (Draw.Only.set g _ 3 _)).trans (Draw.Only.set g _ 4 _)).trans (Draw.Only.set g _ 5 _))⟩

theorem long_fresh (m : Mk) {z : Sz} (hz : RightS z) : longLn m.fs m.f m.t ⟨0, topL m.fs m.f m.t z m.y, 0, topL m.fs m.f m.t z m.y, 0, 0⟩ z = lnOf (m.fresh z) := by
  have h1 := hz.h1
  unfold longLn lnOf Mk.l Mk.r Mk.b Mk.fresh
  have hh : highL [z] = z.ht := by show (if (0 : Int) < z.ht then z.ht else 0) = z.ht; split <;> omega
  have hw : wideL [z] = z.wd := by show (0 : Int) + z.wd = z.wd; omega
  simp only [hh, hw]
  generalize topL m.fs m.f m.t z m.y = tp
  rw [show max tp (tp + z.ht) = tp + z.ht by omega, show tp + z.ht - tp = z.ht by omega]
  simp

theorem long_more (m : Mk) {x : Ln} {z : Sz} (h1 : x.t = m.top) (h2 : x.b = m.b) (h3 : x.a = m.az.length) (h4 : x.w = wideL m.az) : longLn m.fs m.f m.t x z = lnOf (m.more z) := by
  unfold longLn lnOf Mk.l Mk.r Mk.b
  have e1 : (m.more z).az = m.az ++ [z] := rfl
  have e2 : highL (m.more z).az = max (highL m.az) z.ht := by rw [e1, highL_snoc]; split <;> omega
  have e3 : wideL (m.more z).az = wideL m.az + z.wd := by rw [e1, wideL_snoc]
  have e4 : ((m.more z).az.length : Int) = m.az.length + 1 := by rw [e1]; simp
  rw [e2, e3, e4, h1, h2, h3, h4]
  unfold Mk.b
  show (⟨freeL m.fs m.f m.top _, m.top, freeR m.fs m.t m.top _, _, _, _⟩ : Ln) = ⟨freeL m.fs m.f m.top _, m.top, freeR m.fs m.t m.top _, m.top + _, _, _⟩
  rw [show max (m.top + highL m.az) (m.top + z.ht) - m.top = max (highL m.az) z.ht by omega, show max (m.top + highL m.az) (m.top + z.ht) = m.top + max (highL m.az) z.ht by omega]

theorem stands_of {m : Mk} (h : m.az ≠ []) : Stands m (lnOf m) := .inr ⟨h, rfl, rfl, rfl, rfl⟩

section

variable {S : World → (Nat → Prop) → Addr → List Fl → Prop}

set_option maxRecDepth 100000 in
set_option maxHeartbeats 1000000 in
theorem ladd_no (hO : SpaceOk S) (w : World) (F : Nat → Prop) (p : Addr) (b : Nat) (m : Mk) (z : Sz) (hs : S w F p m.fs) (hb : Bl w p b m) (hF : ¬ F b) (hm : m.az = []) (hf : Fine m) (hz : RightS z) :
    Calls Tryz.prog 44 #[.pointer (some ⟨b, 0, none⟩), .agg #[.int .i64 z.wd, .int .i64 z.ht]] w fun e w' => e = .returned (.bool true) ∧ Bl w' p b (m.fresh z) ∧ But (fun k => k = b) w w' := by
  have HB : Hid (RowAt w b (bldr p m.f m.t m.y zeroLn)) := Lib.hid (by
    obtain ⟨x, h, s | s⟩ := hb
    · rw [← s.2]; exact h
    · exact absurd hm s.1)
  have hy1 := hf.y1
  have hy2 := hf.y2
  have HTo := Lib.hid (fun w1 (k : S w1 F p m.fs) (kb : RowAt w1 b (bldr p m.f m.t m.y zeroLn)) => ltop_any hO w1 F p m.fs b m.f m.t m.y zeroLn z k hf.h49 kb hz ⟨hf.f1, hf.f2⟩ ⟨hf.t1, hf.t2⟩ (inS_iff.2 ⟨by omega, by omega⟩))
  have htb := topL_b z hf.h49 hf.f1 hf.t2 (y := m.y) (by omega)
  have hres := long_fresh m hz
  have HLo := Lib.hid (fun w1 (k : S w1 F p m.fs) (kb : RowAt w1 b (bldr p m.f m.t m.y zeroLn)) => llonger_any hO w1 F p m.fs b m.f m.t m.y zeroLn ⟨0, topL m.fs m.f m.t z m.y, 0, topL m.fs m.f m.t z m.y, 0, 0⟩ z k hf.h49 kb hz (show -1125899906842624 ≤ topL m.fs m.f m.t z m.y ∧ topL m.fs m.f m.t z m.y ≤ 1125899906842624 by omega) (show topL m.fs m.f m.t z m.y ≤ topL m.fs m.f m.t z m.y ∧ topL m.fs m.f m.t z m.y ≤ topL m.fs m.f m.t z m.y + 2147483648 by omega) (show (0 : Int) ≤ 0 ∧ (0 : Int) ≤ 1000000 by omega) (show (0 : Int) ≤ 0 ∧ (0 : Int) ≤ 1125899906842624 by omega))
  rw [hres] at HLo
  have hst := stands_of (m := m.fresh z) (by show [z] ≠ []; simp)
  have HST := Lib.hid hst
  have hff : (m.fresh z).f = m.f := rfl
  have hft : (m.fresh z).t = m.t := rfl
  have hfy : (m.fresh z).y = m.y := rfl
  have HM := Lib.hid (⟨hff, hft, hfy⟩ : (m.fresh z).f = m.f ∧ (m.fresh z).t = m.t ∧ (m.fresh z).y = m.y)
  generalize m.fresh z = m' at *
  generalize topL m.fs m.f m.t z m.y = tp at *
  generalize lnOf m' = X at *
  have HS := Lib.hid hs
  clear hs hb hm hf hz hy1 hy2 htb hres hst hff hft hfy
  go_enter Tryz.func44, Tryz.ntmps44
  go_upto_region 1 with fail
  generalize hW1 : World.alloc w _ = W
  obtain ⟨b0, hb0⟩ : ∃ b0, w.heap.size = b0 := ⟨_, rfl⟩
  have k1 : Below w.heap.size w W := by rw [← hW1]; exact ba1 _ _
  have z1 : RowAt W b0 (zcells z) := by rw [← hW1, ← hb0]; exact RowAt.new w _ _
  rw [hb0]
  have S1 := Lib.hid (⟨k1, HB.out.below (by simp) k1, z1, thruS hO HS.out k1⟩ : Below w.heap.size w W ∧ RowAt W b (bldr p m.f m.t m.y zeroLn) ∧ RowAt W b0 (zcells z) ∧ S W F p m.fs)
  obtain ⟨c0, c1, c2, c3, c4, c5, c6, c7, c8, c9⟩ := bat_of S1.out.2.1
  obtain ⟨q0, q1, -, -⟩ := two_of z1
  clear hW1 hb0 k1 z1 HB HS
  go_upto_region 4 with (first
    | (go_at_call 61; refine (HTo.out _ S1.out.2.2.2 S1.out.2.1).mono ?_; rintro e w1 ⟨rfl, k1⟩; have S2 := Lib.hid (⟨thru S1.out.1 k1, S1.out.2.1.below (by simp) k1, thruS hO S1.out.2.2.2 k1⟩ : Below w.heap.size w w1 ∧ RowAt w1 b (bldr p m.f m.t m.y zeroLn) ∧ S w1 F p m.fs); have z1 := S1.out.2.2.1.below (by simp) k1; clear q0 q1; obtain ⟨q0, q1, -, -⟩ := two_of z1; clear k1 z1)
    | (go_at_call 62; refine (HLo.out _ S2.out.2.2 S2.out.2.1).mono ?_; rintro e w2 ⟨rfl, k2⟩; have S3 := Lib.hid (⟨thru S2.out.1 k2, S2.out.2.1.below (by simp) k2⟩ : Below w.heap.size w w2 ∧ RowAt w2 b (bldr p m.f m.t m.y zeroLn)); have f4 := S3.out.2.frz 4; have f5 := S3.out.2.frz 5; have f6 := S3.out.2.frz 6; have f7 := S3.out.2.frz 7; have f8 := S3.out.2.frz 8; have f9 := S3.out.2.frz 9; clear c0 c1 c2 c3 c4 c5 c6 c7 c8 c9; obtain ⟨c0, c1, c2, c3, c4, c5, c6, c7, c8, c9⟩ := bat_of S3.out.2; clear k2))
  clear c0 c1 c2 c3 c4 c5 c6 c7 c8 c9 f4 f5 f6 f7 f8 f9
  have v5 := bldr_six S3.out.2 X
  have k5 := but_six (b := b) (But.of_below (S := fun k => k = b) S3.out.1) 4 5 6 7 8 9 (.int .i64 X.l) (.int .i64 X.t) (.int .i64 X.r) (.int .i64 X.b) (.int .i64 X.a) (.int .i64 X.w)
  have S5 := Lib.hid (⟨v5, k5⟩ : _ ∧ _)
  clear v5 k5
  go_wp2_with fail
  refine bodyPost_ret (v := .bool true) (by simp [results, Tryz.results44, go_sem]) rfl ⟨rfl, ⟨X, ?_, HST.out⟩, S5.out.2⟩
  rw [HM.out.1, HM.out.2.1, HM.out.2.2]
  exact S5.out.1

set_option maxRecDepth 100000 in
set_option maxHeartbeats 1000000 in
theorem ladd_some (hO : SpaceOk S) (w : World) (F : Nat → Prop) (p : Addr) (b : Nat) (m : Mk) (z : Sz) (hs : S w F p m.fs) (hb : Bl w p b m) (hF : ¬ F b) (hm : m.az ≠ []) (hf : Fine m) (hz : RightS z) :
    Calls Tryz.prog 44 #[.pointer (some ⟨b, 0, none⟩), .agg #[.int .i64 z.wd, .int .i64 z.ht]] w fun e w' => e = .returned (.bool (m.fits z)) ∧ Bl w' p b (if m.fits z then m.more z else m) ∧ But (fun k => k = b) w w' := by
  have hhi := highL_b hf.ha
  have hwi := wideL_b hf.ha
  have hhl := hf.hl
  have htop := (⟨hf.p1 hm, hf.p2 hm⟩ : -1125899906842624 ≤ m.top ∧ m.top ≤ 1125899906842624)
  have hex : ∃ x, RowAt w b (bldr p m.f m.t m.y x) ∧ x.t = m.top ∧ x.b = m.b ∧ x.a = m.az.length ∧ x.w = wideL m.az ∧ ¬ x.a = 0 := by
    obtain ⟨x, h, s | s⟩ := hb
    · exact absurd s.1 hm
    · refine ⟨x, h, s.2.1, s.2.2.1, s.2.2.2.1, s.2.2.2.2, ?_⟩
      have := List.length_pos_iff.2 hm
      have := s.2.2.2.1
      omega
  obtain ⟨x, hx, e1, e2, e3, e4, e5⟩ := hex
  have hbb : m.b = m.top + highL m.az := rfl
  have hstm : Stands m x := .inr ⟨hm, e1, e2, e3, e4⟩
  have HLo := Lib.hid (fun w1 (k : S w1 F p m.fs) (kb : RowAt w1 b (bldr p m.f m.t m.y x)) => llonger_any hO w1 F p m.fs b m.f m.t m.y x x z k hf.h49 kb hz (by omega) (by omega) (by omega) (by omega))
  rw [long_more m e1 e2 e3 e4] at HLo
  have hst := stands_of (more_ne m z)
  obtain ⟨L1, L2⟩ := bandL_49 hf.h49 m.top (m.top + highZ (highL (m.more z).az))
  obtain ⟨R1, R2⟩ := bandR_49 hf.h49 m.top (m.top + highZ (highL (m.more z).az))
  have hf1 := hf.f1
  have hf2 := hf.f2
  have ht1 := hf.t1
  have ht2 := hf.t2
  have hL : -4503599627370496 ≤ (lnOf (m.more z)).l ∧ (lnOf (m.more z)).l ≤ 4503599627370496 := by
    show -4503599627370496 ≤ max m.f (bandL m.fs m.top (m.top + highZ (highL (m.more z).az))) ∧ max m.f (bandL m.fs m.top (m.top + highZ (highL (m.more z).az))) ≤ 4503599627370496
    omega
  have hR : -4503599627370496 ≤ (lnOf (m.more z)).r ∧ (lnOf (m.more z)).r ≤ 4503599627370496 := by
    show -4503599627370496 ≤ min m.t (bandR m.fs m.top (m.top + highZ (highL (m.more z).az))) ∧ min m.t (bandR m.fs m.top (m.top + highZ (highL (m.more z).az))) ≤ 4503599627370496
    omega
  have hfit : decide ((lnOf (m.more z)).w ≤ (lnOf (m.more z)).r - (lnOf (m.more z)).l) = m.fits z := rfl
  have HM := Lib.hid (⟨rfl, rfl, rfl⟩ : (m.more z).f = m.f ∧ (m.more z).t = m.t ∧ (m.more z).y = m.y)
  generalize m.more z = m' at *
  generalize lnOf m' = X at *
  obtain ⟨d, hd⟩ : ∃ d, X.r - X.l = d := ⟨_, rfl⟩
  have HLd := Lib.hid (fun w => llen_is X.l X.r d (by rw [IntWalk.i64_in _ (by omega)]; exact hd) w)
  rw [hd] at hfit
  generalize m.fits z = v at *
  have HST := Lib.hid (⟨hst, hstm⟩ : Stands m' X ∧ Stands m x)
  have HS := Lib.hid hs
  have HB := Lib.hid hx
  have HV := Lib.hid hfit
  clear hs hb hm hf hz hhi hwi hhl htop hx e1 e2 e3 e4 hbb hstm hst L1 L2 R1 R2 hf1 hf2 ht1 ht2 hL hR hfit hd
  go_enter Tryz.func44, Tryz.ntmps44
  go_upto_region 1 with fail
  generalize hW1 : World.alloc w _ = W
  obtain ⟨b0, hb0⟩ : ∃ b0, w.heap.size = b0 := ⟨_, rfl⟩
  have k1 : Below w.heap.size w W := by rw [← hW1]; exact ba1 _ _
  have z1 : RowAt W b0 (zcells z) := by rw [← hW1, ← hb0]; exact RowAt.new w _ _
  rw [hb0]
  have S1 := Lib.hid (⟨k1, HB.out.below (by simp) k1, z1, thruS hO HS.out k1⟩ : Below w.heap.size w W ∧ RowAt W b (bldr p m.f m.t m.y x) ∧ RowAt W b0 (zcells z) ∧ S W F p m.fs)
  have hbw : b < w.heap.size := HB.out.lt (by simp)
  obtain ⟨c0, c1, c2, c3, c4, c5, c6, c7, c8, c9⟩ := bat_of S1.out.2.1
  clear hW1 hb0 k1 z1 HB HS
  go_upto_region 5 with fail
  clear c0 c1 c2 c3 c4 c5 c6 c7 c8 c9
  have HA := Lib.hid (fun (st : Nat) w' G (j : Draw.quiet W st w' G) => bat_of (S1.out.2.1.below (by simp) j.1))
  have HZ := Lib.hid (fun (st : Nat) w' G (j : Draw.quiet W st w' G) => two_of (S1.out.2.2.1.below (by simp) j.1))
  have HSS := Lib.hid (fun (st : Nat) w' G (j : Draw.quiet W st w' G) => thruS hO S1.out.2.2.2 j.1)
  refine Draw.wp_region_drawn (Draw.quiet W) 0 [.val (.pointer (some ⟨b, 0, none⟩)), .val (.pointer (some ⟨b, 0, none⟩)), .val (.pointer (some ⟨b, 0, none⟩)), .val (.pointer (some ⟨b, 4, none⟩)), .val (x.v), .val (.agg #[.int .i64 z.wd, .int .i64 z.ht]), .val (X.v), .box (.cells (lncells zeroLn) 47), .put 7 (.cells (lncells X) 47)] (by kernel_rfl) (by kernel_rfl) (by kernel_rfl) (Draw.quiet_kept W) (Draw.quiet_start W) ?_ ?_
  · simp only [Draw.fill, Draw.Leave.value]
    refine ⟨?_, ?_, ?_, ?_, ?_, ?_, ?_, ?_, ?_, trivial⟩
    · intro st gg w' G hw hk
      go_simp
      exact ⟨rfl, rfl⟩
    · intro st gg w' G hw hk
      go_simp
      exact ⟨rfl, rfl⟩
    · intro st gg w' G hw hk
      go_simp
      exact ⟨rfl, rfl⟩
    · intro st gg w' G hw hk
      go_simp
      exact ⟨rfl, rfl⟩
    · intro st gg w' G hw hk
      have q := HA.out st w' G hw
      have q4 := q.2.2.2.2.1
      have q5 := q.2.2.2.2.2.1
      have q6 := q.2.2.2.2.2.2.1
      have q7 := q.2.2.2.2.2.2.2.1
      have q8 := q.2.2.2.2.2.2.2.2.1
      have q9 := q.2.2.2.2.2.2.2.2.2
      clear q
      go_simp
      exact ⟨rfl, rfl⟩
    · intro st gg w' G hw hk
      have q0 := (HZ.out st w' G hw).1
      have q1 := (HZ.out st w' G hw).2.1
      go_simp
      exact ⟨rfl, rfl⟩
    · intro st gg w' G hw hk
      go_simp
      exact Draw.stays_call (HLo.out w' (HSS.out st w' G hw) (S1.out.2.1.below (by simp) hw.1))
    · intro st gg w' G hw hk
      go_simp
    · intro st gg w' G hw y b hy hob hb
      obtain rfl : Draw.Leave.box _ = y := Option.some.inj hy
      obtain rfl : _ = b := Option.some.inj hob
      obtain ⟨r0, r1, r2, r3, r4, r5⟩ := lat_of (rowAt_of (xs := lnrow zeroLn) hb)
      have hfr := (rowAt_of (xs := lnrow zeroLn) hb).frz
      have f0 := hfr 0
      have f1 := hfr 1
      have f2 := hfr 2
      have f3 := hfr 3
      have f4 := hfr 4
      have f5 := hfr 5
      refine ⟨_, ?_, only_putL zeroLn X hb⟩
      clear hfr
      clear hb
      go_simp
      rfl
  intro gg w5 G5 k5 hbox hput hap
  have p7 : w5.heap[gg 7]? = some (.cells (lnrow X).toArray 47) := hput 8 7 _ rfl
  have l7 := (hbox 7 _ _ rfl rfl).2.1
  simp only [Draw.fill, Draw.Leave.value]
  go_simp
  generalize gg 7 = g at *
  have S5 := Lib.hid (⟨thru S1.out.1 k5.1, S1.out.2.1.below (by simp) k5.1, rowAt_of p7⟩ : Below w.heap.size w w5 ∧ RowAt w5 b (bldr p m.f m.t m.y x) ∧ RowAt w5 g (lnrow X))
  have hgb : w.heap.size ≤ g := by have := S1.out.1.size; omega
  clear hbox hput hap p7 l7 k5 S1 HA HZ HSS HLo
  have HX := Lib.hid (fun w' (j : Below w5.heap.size w5 w') => lat_of (S5.out.2.2.below (by simp) j))
  go_upto_region 6 with fail
  cases v with
  | false =>
    have hle : ¬ X.w ≤ d := of_decide_eq_false HV.out
    have HLE := Lib.hid (show d < X.w by omega)
    clear hle HV
    refine HoldAll.wp_region_hold_all [.val (.pointer (some ⟨g, 5, none⟩)), .val (.int .i64 X.w), .val (.pointer (some ⟨g, 0, none⟩)), .val (.agg #[.int .i64 X.l, .int .i64 X.t, .int .i64 X.r, .int .i64 X.b]), .val (.agg #[.int .i64 X.l, .int .i64 X.r]), .val (.int .i64 d), .val (.bool true)] (by kernel_rfl) (by kernel_rfl) (by kernel_rfl) ?_ ?_
    · simp only [Hold.fill, Hold.Leave.value]
      refine ⟨?_, ?_, ?_, ?_, ?_, ?_, ?_, trivial⟩
      · intro gg w' hw hk
        go_simp
        exact ⟨rfl, rfl⟩
      · intro gg w' hw hk
        have q5 := (HX.out w' hw).2.2.2.2.2
        go_simp
        exact ⟨rfl, rfl⟩
      · intro gg w' hw hk
        go_simp
        exact ⟨rfl, rfl⟩
      · intro gg w' hw hk
        have q0 := (HX.out w' hw).1
        have q1 := (HX.out w' hw).2.1
        have q2 := (HX.out w' hw).2.2.1
        have q3 := (HX.out w' hw).2.2.2.1
        go_simp
        exact ⟨rfl, rfl⟩
      · intro gg w' hw hk
        go_simp
        exact Hold.stays_call (columns_any _ _ _ _ w')
      · intro gg w' hw hk
        go_simp
        exact Hold.stays_call (HLd.out w')
      · intro gg w' hw hk
        have q := HLE.out
        go_simp
        exact ⟨rfl, rfl⟩
    intro gg w6 k6 hgg
    clear hgg
    simp only [Hold.fill, Hold.Leave.value]
    have K6 := Lib.hid (⟨thru S5.out.1 k6, S5.out.2.1.below (by simp) k6⟩ : Below w.heap.size w w6 ∧ RowAt w6 b (bldr p m.f m.t m.y x))
    clear k6
    go_simp
    go_wp2_with fail
    exact bodyPost_ret (v := .bool false) (by simp [results, Tryz.results44, go_sem]) rfl ⟨rfl, ⟨x, K6.out.2, HST.out.2⟩, But.of_below K6.out.1⟩
  | true =>
    have hle : X.w ≤ d := of_decide_eq_true HV.out
    have HLE := Lib.hid (show ¬ d < X.w by omega)
    clear hle HV
    refine HoldAll.wp_region_hold_all [.val (.pointer (some ⟨g, 5, none⟩)), .val (.int .i64 X.w), .val (.pointer (some ⟨g, 0, none⟩)), .val (.agg #[.int .i64 X.l, .int .i64 X.t, .int .i64 X.r, .int .i64 X.b]), .val (.agg #[.int .i64 X.l, .int .i64 X.r]), .val (.int .i64 d), .val (.bool false)] (by kernel_rfl) (by kernel_rfl) (by kernel_rfl) ?_ ?_
    · simp only [Hold.fill, Hold.Leave.value]
      refine ⟨?_, ?_, ?_, ?_, ?_, ?_, ?_, trivial⟩
      · intro gg w' hw hk
        go_simp
        exact ⟨rfl, rfl⟩
      · intro gg w' hw hk
        have q5 := (HX.out w' hw).2.2.2.2.2
        go_simp
        exact ⟨rfl, rfl⟩
      · intro gg w' hw hk
        go_simp
        exact ⟨rfl, rfl⟩
      · intro gg w' hw hk
        have q0 := (HX.out w' hw).1
        have q1 := (HX.out w' hw).2.1
        have q2 := (HX.out w' hw).2.2.1
        have q3 := (HX.out w' hw).2.2.2.1
        go_simp
        exact ⟨rfl, rfl⟩
      · intro gg w' hw hk
        go_simp
        exact Hold.stays_call (columns_any _ _ _ _ w')
      · intro gg w' hw hk
        go_simp
        exact Hold.stays_call (HLd.out w')
      · intro gg w' hw hk
        have q := HLE.out
        go_simp
        exact ⟨rfl, rfl⟩
    intro gg w6 k6 hgg
    clear hgg
    simp only [Hold.fill, Hold.Leave.value]
    have K6 := Lib.hid (⟨thru S5.out.1 k6, S5.out.2.1.below (by simp) k6, S5.out.2.2.below (by simp) k6⟩ : Below w.heap.size w w6 ∧ RowAt w6 b (bldr p m.f m.t m.y x) ∧ RowAt w6 g (lnrow X))
    obtain ⟨r0, r1, r2, r3, r4, r5⟩ := lat_of K6.out.2.2
    have f4 := K6.out.2.1.frz 4
    have f5 := K6.out.2.1.frz 5
    have f6 := K6.out.2.1.frz 6
    have f7 := K6.out.2.1.frz 7
    have f8 := K6.out.2.1.frz 8
    have f9 := K6.out.2.1.frz 9
    obtain ⟨c0, c1, c2, c3, c4, c5, c6, c7, c8, c9⟩ := bat_of K6.out.2.1
    have v7 := bldr_six K6.out.2.1 X
    have k7 := but_six (b := b) (But.of_below (S := fun k => k = b) K6.out.1) 4 5 6 7 8 9 (.int .i64 X.l) (.int .i64 X.t) (.int .i64 X.r) (.int .i64 X.b) (.int .i64 X.a) (.int .i64 X.w)
    have S7 := Lib.hid (⟨v7, k7⟩ : _ ∧ _)
    clear k6 v7 k7
    go_simp
    go_wp2_with fail
    refine bodyPost_ret (v := .bool true) (by simp [results, Tryz.results44, go_sem]) rfl ⟨rfl, ⟨X, ?_, HST.out.1⟩, S7.out.2⟩
    show RowAt _ b (bldr p m'.f m'.t m'.y X)
    rw [HM.out.1, HM.out.2.1, HM.out.2.2]
    exact S7.out.1

theorem ladd_any (hO : SpaceOk S) (w : World) (F : Nat → Prop) (p : Addr) (b : Nat) (m : Mk) (z : Sz) (hs : S w F p m.fs) (hb : Bl w p b m) (hF : ¬ F b) (hf : Fine m) (hz : RightS z) :
    Calls Tryz.prog 44 #[.pointer (some ⟨b, 0, none⟩), .agg #[.int .i64 z.wd, .int .i64 z.ht]] w fun e w' => e = .returned (.bool (m.add z).2) ∧ Bl w' p b (m.add z).1 ∧ But (fun k => k = b) w w' := by
  by_cases hm : m.az = []
  · rw [add_nil hm]
    exact ladd_no hO w F p b m z hs hb hF hm hf hz
  · refine (ladd_some hO w F p b m z hs hb hF hm hf hz).mono ?_
    rintro e w' ⟨rfl, h1, h2⟩
    cases hfi : m.fits z with
    | true => rw [add_fits hm hfi]; rw [hfi] at h1; exact ⟨rfl, h1, h2⟩
    | false => rw [add_not hm hfi]; rw [hfi] at h1; exact ⟨rfl, h1, h2⟩

end

end Go.Proofs.YtdibdfalahjmbaaGreat.Line
