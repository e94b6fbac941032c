
import Derived.Test.YtdibdfalahjmbaaGreatPart27
namespace Go.Proofs.YtdibdfalahjmbaaGreat.Text

open Go.RowKit Go.Sort Go.Proofs.YtdibdfalahjmbaaGreat.Rect Go.Proofs.YtdibdfalahjmbaaGreat.More Go.Proofs.YtdibdfalahjmbaaGreat.Shelf Go.Proofs.YtdibdfalahjmbaaGreat.Space Go.Proofs.YtdibdfalahjmbaaGreat.Place Go.Proofs.YtdibdfalahjmbaaGreat.Line

set_option linter.unusedVariables false

set_option linter.unusedSimpArgs false

section

variable {S : World → (Nat → Prop) → Addr → List Fl → Prop}

set_option maxRecDepth 100000 in
set_option maxHeartbeats 2000000 in
theorem kbes_yes (hO : SpaceOk S) (hP : PlaceOk S) {w : World} {P : Fast} {q : Loose} {its : List It} {s : Ly} {Z : Int} {kk : Nat} (h : Kat S w P q its s) (hA : Able its Z kk s) {k : Nat} (hk : k < its.length) (h0 : (itAt its k).sd ≠ 0) (hm : s.m.az ≠ []) {r : Fl} (hr : (s.m.beside (wantAt its s.m k s.m.top)).2 = some r) :
    Calls Tryz.prog 45 #[.pointer (some ⟨P.kb, 0, none⟩), .int .i64 (k : Int)] w fun e w' => e = .returned (.bool true) ∧ ∃ F', Kat S w' P { q with F := F' } its (s.side its k r) ∧ Grew P q { q with F := F' } w w' := by
  have hfine := hA.fine
  have hwl := hA.kp.wl
  have hz := hA.hz
  have hkk := hA.hk
  have hkb : k < s.box.length := by rw [hA.kp.bl]; exact hk
  have hx : RightW (wantAt its s.m k s.m.top) := (itAt_right hA.hr hk).want h0 hA.kp.lo.f1 hA.kp.lo.f2 hA.kp.lo.t1 hA.kp.lo.t2 hA.kp.lo.ft (by have := hA.kp.lo.p1 hm; have := hA.kp.lo.y1; omega) (by have := hA.kp.lo.p2 hm; omega)
  have HNo := Lib.hid (lnow_some hO w q.F P.p P.bb s.m h.sp h.bl hm hfine)
  have hbe := beside_is hm (x := wantAt its s.m k s.m.top) hx.sd
  obtain ⟨hr1, hr2, -⟩ := beside_some hr
  have hN : besN s.m r = false := by
    rw [← hr1, hr] at hbe
    cases hb : besN s.m r with
    | false => rfl
    | true => rw [hb] at hbe; cases hbe
  obtain ⟨m', hm'⟩ : ∃ m', putM s.m (wantAt its s.m k s.m.top) = m' := ⟨_, rfl⟩
  have hside : s.side its k r = { s with m := m', box := s.box.set k (bxOf r) } := by unfold Ly.side; rw [hr2, hm']
  have hfs : m'.fs = s.m.fs ++ [r] := by rw [← hm', hr1]; rfl
  have HM := Lib.hid (⟨by rw [← hm']; rfl, by rw [← hm']; rfl, by rw [← hm']; rfl, by rw [← hm']; rfl, by rw [← hm']; rfl⟩ : m'.f = s.m.f ∧ m'.t = s.m.t ∧ m'.y = s.m.y ∧ m'.top = s.m.top ∧ m'.az = s.m.az)
  have hflen : s.m.fs.length < 1000 := by have := hA.fs; omega
  have HFl := Lib.hid (fun (w1 : World) F (a : S w1 F P.p s.m.fs) (b : Bl w1 P.p P.bb s.m) (c : ¬ F P.bb) => lfloat_yes hO hP w1 F P.p P.bb s.m (wantAt its s.m k s.m.top) a b c hm hfine hx hflen (by rw [← hr1]; exact hN))
  rw [← hr1, ← hfs] at HFl
  rw [hside]
  have htop : s.m.top = (lnOf s.m).t := rfl
  have hwt : wantAt its s.m k s.m.top = wantAt its s.m k (lnOf s.m).t := rfl
  obtain ⟨X, hX⟩ : ∃ X, lnOf s.m = X := ⟨_, rfl⟩
  obtain ⟨x, hxx⟩ : ∃ x, wantAt its s.m k s.m.top = x := ⟨_, rfl⟩
  have HXX := Lib.hid (show wantAt its s.m k X.t = x by rw [← hX]; exact hxx)
  rw [hxx] at HFl
  rw [hX] at HNo
  clear hr hr1 hr2 hN hbe hm' hside hfs hflen htop hwt hxx hx
  have HX := Lib.hid hX
  have hki : (k : Int) < (s.box.length : Int) := by omega
  have hk0 : ¬ (k : Int) < 0 := by omega
  have HL := Lib.hid (⟨hk, hkb⟩ : k < its.length ∧ k < s.box.length)
  have HK := Lib.hid h
  obtain ⟨c0, -⟩ := h.cells
  clear h hA hk h0 hm hfine hwl hz hkk hkb hX
  go_enter Tryz.func45, Tryz.ntmps45
  go_upto_region 2 with (first
    | (go_at_call 46; refine HNo.out.mono ?_; rintro e w1 ⟨rfl, k1⟩; have K1 := Lib.hid k1; clear k1))
  clear c0
  generalize hW1 : World.alloc w1 _ = V
  obtain ⟨b5, hb5⟩ : ∃ b5, w1.heap.size = b5 := ⟨_, rfl⟩
  have k2 : Below w1.heap.size w1 V := by rw [← hW1]; exact ba1 _ _
  have z5 : RowAt V b5 (lnrow X) := by rw [← hW1, ← hb5]; exact RowAt.new w1 _ _
  have hno : ∀ i j, part P q i j → ¬ j = b5 := fun i j e x => by have := HK.out.low hO i j e; have := K1.out.size; omega
  rw [hb5]
  have S2 := Lib.hid (⟨HK.out.below hO (thru K1.out k2), Grew.of_below (thru K1.out k2), z5, hno⟩ : Kat S V P q its s ∧ Grew P q q w V ∧ RowAt V b5 (lnrow X) ∧ ∀ i j, part P q i j → ¬ j = b5)
  clear hW1 hb5 k2 z5 hno K1 HK HNo
  have HW := Lib.hid (fun (st : Nat) w' G (j : stK S V P q its (two' s m') st w' G) => show (∃ F', Kat S w' P { q with F := F' } its { s with m := (two' s m' st).m }) ∧ RowAt w' b5 (lnrow X) by
    obtain ⟨-, ⟨q', a, b, -⟩, -⟩ := j
    exact ⟨⟨q', by cases st <;> exact a⟩, S2.out.2.2.1.but (by simp) b.but (fun ⟨i, _, e⟩ => S2.out.2.2.2 i b5 e rfl)⟩)
  have HMM := Lib.hid (fun st => show (two' s m' st).m.f = s.m.f ∧ (two' s m' st).m.t = s.m.t by
    cases st
    · exact ⟨rfl, rfl⟩
    · exact ⟨HM.out.1, HM.out.2.1⟩)
  have HC0 := Lib.hid (fun (st : Nat) w' G (j : stK S V P q its (two' s m') st w' G) => (show w'.cell? ⟨P.kb, 0, none⟩ = some (.pointer (some ⟨P.bb, 0, none⟩)) by
    obtain ⟨q', a⟩ := (HW.out st w' G j).1
    exact a.kr.at' 0))
  have HWa := Lib.hid (fun (st : Nat) w' G (j : stK S V P q its (two' s m') st w' G) => show Calls Tryz.prog 49 #[.pointer (some ⟨P.kb, 0, none⟩), .int .i64 (k : Int), .int .i64 X.t] w' fun e w'' => e = .returned x.v ∧ Below w'.heap.size w' w'' by
    obtain ⟨q', a⟩ := (HW.out st w' G j).1
    have := want_any hO a HL.out.1 X.t
    rw [show wantAt its ({ s with m := (two' s m' st).m } : Ly).m k X.t = x by rw [← HXX.out]; unfold wantAt; rw [show ({ s with m := (two' s m' st).m } : Ly).m.f = s.m.f from (HMM.out st).1, show ({ s with m := (two' s m' st).m } : Ly).m.t = s.m.t from (HMM.out st).2]] at this
    exact this)
  have HTu := Lib.hid (fun w' G (j : stK S V P q its (two' s m') 0 w' G) => stK_space hO (m' := m') (v := .tuple #[Fl.box r, .bool true]) (f := 65) (args := #[.pointer (some ⟨P.bb, 0, none⟩), x.v]) j (fun F hF a => HFl.out w' F hF a.bl (fun e => absurd (a.ap 0 1 P.bb e rfl) (by decide))) rfl HM.out.1 HM.out.2.1 HM.out.2.2.1 HM.out.2.2.2.1 HM.out.2.2.2.2)
  have HK0 := Lib.hid (stK_start (ss := two' s m') hO S2.out.1)
  refine Draw.wp_region_drawn (stK S V P q its (two' s m')) 1 [.val (.pointer (some ⟨P.kb, 0, none⟩)), .val (.pointer (some ⟨P.kb, 0, none⟩)), .val (.pointer (some ⟨P.kb, 0, none⟩)), .val (.pointer (some ⟨P.bb, 0, none⟩)), .val (.pointer (some ⟨P.kb, 0, none⟩)), .val (.int .i64 (k : Int)), .val (.pointer (some ⟨b5, 0, none⟩)), .val (.pointer (some ⟨b5, 1, none⟩)), .val (.int .i64 X.t), .val (x.v), .turn 0 (.tuple #[.agg #[.int .i64 r.l, .int .i64 r.t, .int .i64 r.r, .int .i64 r.b], .bool true]), .val (.tuple #[.agg #[.int .i64 r.l, .int .i64 r.t, .int .i64 r.r, .int .i64 r.b], .bool true]), .val (.agg #[.int .i64 r.l, .int .i64 r.t, .int .i64 r.r, .int .i64 r.b]), .val (.bool true), .box (.cells #[.int .i64 0, .int .i64 0, .int .i64 0, .int .i64 0] 42), .put 14 (.cells #[.int .i64 r.l, .int .i64 r.t, .int .i64 r.r, .int .i64 r.b] 42), .val (.bool true)] (by kernel_rfl) (by kernel_rfl) (by kernel_rfl) (stK_kept hO) HK0.out ?_ ?_
  · simp only [Draw.fill, Draw.Leave.value]
    refine ⟨?_, ?_, ?_, ?_, ?_, ?_, ?_, ?_, ?_, ?_, ?_, ?_, ?_, ?_, ?_, ?_, ?_, trivial⟩
    · intro st gg w' G hw hk
      go_simp
      exact ⟨rfl, rfl⟩
    · intro st gg w' G hw hk
      go_simp
      exact ⟨rfl, rfl⟩
    · intro st gg w' G hw hk
      go_simp
      exact ⟨rfl, rfl⟩
    · intro st gg w' G hw hk
      have q0 : w'.cell? ⟨P.kb, 0, none⟩ = some (.pointer (some ⟨P.bb, 0, none⟩)) := HC0.out st w' G hw
      go_simp
      exact ⟨rfl, rfl⟩
    · intro st gg w' G hw hk
      go_simp
      exact ⟨rfl, rfl⟩
    · intro st gg w' G hw hk
      go_simp
      exact ⟨rfl, rfl⟩
    · intro st gg w' G hw hk
      go_simp
      exact ⟨rfl, rfl⟩
    · intro st gg w' G hw hk
      go_simp
      exact ⟨rfl, rfl⟩
    · intro st gg w' G hw hk
      have q0 : w'.cell? ⟨b5, 1, none⟩ = some (.int .i64 X.t) := ((HW.out st w' G hw).2).at' 1
      go_simp
      exact ⟨rfl, rfl⟩
    · intro st gg w' G hw hk
      go_simp
      exact Draw.stays_call (HWa.out st w' G hw)
    · intro gg w' G hw hk
      go_simp
      exact Draw.turns_call (HTu.out w' G hw)
    · intro st gg w' G hw hk
      go_simp
      exact ⟨rfl, rfl⟩
    · intro st gg w' G hw hk
      go_simp
      exact ⟨rfl, rfl⟩
    · intro st gg w' G hw hk
      go_simp
      exact ⟨rfl, rfl⟩
    · intro st gg w' G hw hk
      go_simp
    · intro st gg w' G hw y b hy hob hb
      obtain rfl : Draw.Leave.box _ = y := Option.some.inj hy
      obtain rfl : _ = b := Option.some.inj hob
      obtain ⟨r0, r1, r2, r3⟩ := R4.of_block hb
      obtain ⟨f0, f1, f2, f3⟩ := free4 hb
      refine ⟨_, ?_, only_put4 _ 0 0 0 0 r.l r.t r.r r.b hb⟩
      clear hb
      go_simp
      rfl
    · intro st gg w' G hw hk
      go_simp
      exact ⟨rfl, rfl⟩
  intro gg w5 G5 hkw hbox hput hap
  have p14 : w5.heap[gg 14]? = some (.cells #[.int .i64 r.l, .int .i64 r.t, .int .i64 r.r, .int .i64 r.b] 42) := hput 15 14 _ rfl
  obtain ⟨-, ⟨F5, a5, b5', c5⟩, -⟩ := hkw
  have hbx := (hbox 14 _ _ rfl rfl).1
  simp only [Draw.fill, Draw.Leave.value]
  go_simp
  have S5 := Lib.hid (⟨a5, S2.out.2.1.trans b5', rowAt_of p14, fun i j e x => c5 (gg 14) hbx i (by rw [← x]; exact e)⟩ : Kat S w5 P { q with F := F5 } its { s with m := m' } ∧ Grew P q { q with F := F5 } w w5 ∧ RowAt w5 (gg 14) [.int .i64 r.l, .int .i64 r.t, .int .i64 r.r, .int .i64 r.b] ∧ ∀ i j, part P { q with F := F5 } i j → ¬ j = gg 14)
  generalize gg 14 = g7 at *
  clear a5 b5' c5 p14 hbx hbox hput hap HC0 HWa HTu HMM HK0 HW
  go_upto_region 3 with fail
  have HKr := Lib.hid (fun w' (i : Below w5.heap.size w5 w') => show w'.cell? ⟨P.kb, 7, none⟩ = some (.slice (some ⟨P.bx, 0, none⟩) s.box.length s.box.length) from (S5.out.1.below hO i).kr.at' 7)
  have HG7 := Lib.hid (fun w' (i : Below w5.heap.size w5 w') => S5.out.2.2.1.below (by simp) i)
  refine Hold.wp_region_hold [.val (.pointer (some ⟨P.kb, 0, none⟩)), .val (.pointer (some ⟨P.kb, 0, none⟩)), .val (.pointer (some ⟨P.kb, 7, none⟩)), .val (.pointer (some ⟨P.kb, 7, none⟩)), .val (.slice (some ⟨P.bx, 0, none⟩) s.box.length s.box.length), .val (.int .i64 (k : Int)), .val (.agg #[.int .i64 r.l, .int .i64 r.t, .int .i64 r.r, .int .i64 r.b])] (by kernel_rfl) (by kernel_rfl) (by kernel_rfl) ?_ ?_
  · simp only [Hold.fill, Hold.Leave.value]
    refine ⟨?_, ?_, ?_, ?_, ?_, ?_, ?_, trivial⟩
    · intro gg w' hw hk
      go_simp
      exact ⟨rfl, rfl⟩
    · intro gg w' hw hk
      go_simp
      exact ⟨rfl, rfl⟩
    · intro gg w' hw hk
      go_simp
      exact ⟨rfl, rfl⟩
    · intro gg w' hw hk
      go_simp
      exact ⟨rfl, rfl⟩
    · intro gg w' hw hk
      have q0 : w'.cell? ⟨P.kb, 7, none⟩ = some (.slice (some ⟨P.bx, 0, none⟩) s.box.length s.box.length) := HKr.out w' hw
      go_simp
      exact ⟨rfl, rfl⟩
    · intro gg w' hw hk
      go_simp
      exact ⟨rfl, rfl⟩
    · intro gg w' hw hk
      have q0 : w'.cell? ⟨g7, 0, none⟩ = some (.int .i64 r.l) := (HG7.out w' hw).at' 0
      have q1 : w'.cell? ⟨g7, 1, none⟩ = some (.int .i64 r.t) := (HG7.out w' hw).at' 1
      have q2 : w'.cell? ⟨g7, 2, none⟩ = some (.int .i64 r.r) := (HG7.out w' hw).at' 2
      have q3 : w'.cell? ⟨g7, 3, none⟩ = some (.int .i64 r.b) := (HG7.out w' hw).at' 3
      go_simp
      exact ⟨rfl, rfl⟩
  intro gg w6 k6 hgg
  clear hgg
  simp only [Hold.fill, Hold.Leave.value, List.length_cons, List.length_nil, List.drop_succ_cons, List.drop_zero]
  have hK6 := S5.out.1.below hO k6
  have S6 := Lib.hid (⟨hK6, S5.out.2.1.trans (Grew.of_below k6)⟩ : Kat S w6 P { q with F := F5 } its { s with m := m' } ∧ Grew P q { q with F := F5 } w w6)
  obtain ⟨bo, hbo, d0, d1, d2, d3, fz⟩ := box_cells hK6.bo (k := k) (by show k < s.box.length; exact HL.out.2)
  have f0 := fz (k * 4)
  have f1 := fz (k * 4 + 1)
  have f2 := fz (k * 4 + 2)
  have f3 := fz (k * 4 + 3)
  clear k6 hK6 hbo fz HKr HG7 S5
  go_simp
  go_wp2_with fail
  obtain ⟨a6, b6⟩ := S6.out
  obtain ⟨c1, c2⟩ := mineB_put a6.bo (k := k) (by show k < s.box.length; exact HL.out.2) (bxOf r)
  obtain ⟨e1, e2⟩ := a6.boxed hO (bs := s.box.set k (bxOf r)) List.length_set c1 c2
  go_ret
  exact ⟨rfl, F5, e1, b6.trans e2⟩

set_option maxRecDepth 100000 in
set_option maxHeartbeats 2000000 in
theorem kbes_no (hO : SpaceOk S) (hP : PlaceOk S) {w : World} {P : Fast} {q : Loose} {its : List It} {s : Ly} {Z : Int} {kk : Nat} (h : Kat S w P q its s) (hA : Able its Z kk s) {k : Nat} (hk : k < its.length) (h0 : (itAt its k).sd ≠ 0) (hm : s.m.az ≠ []) (hr : (s.m.beside (wantAt its s.m k s.m.top)).2 = none) (hzb : s.box[k]? = some noBx) :
    Calls Tryz.prog 45 #[.pointer (some ⟨P.kb, 0, none⟩), .int .i64 (k : Int)] w fun e w' => e = .returned (.bool false) ∧ ∃ F', Kat S w' P { q with F := F' } its s ∧ Grew P q { q with F := F' } w w' := by
  have hfine := hA.fine
  have hwl := hA.kp.wl
  have hz := hA.hz
  have hkk := hA.hk
  have hkb : k < s.box.length := by rw [hA.kp.bl]; exact hk
  have hx : RightW (wantAt its s.m k s.m.top) := (itAt_right hA.hr hk).want h0 hA.kp.lo.f1 hA.kp.lo.f2 hA.kp.lo.t1 hA.kp.lo.t2 hA.kp.lo.ft (by have := hA.kp.lo.p1 hm; have := hA.kp.lo.y1; omega) (by have := hA.kp.lo.p2 hm; omega)
  have HNo := Lib.hid (lnow_some hO w q.F P.p P.bb s.m h.sp h.bl hm hfine)
  have hbe := beside_is hm (x := wantAt its s.m k s.m.top) hx.sd
  have hN : besN s.m (placed s.m.fs (wantAt its s.m k s.m.top)) = true := by
    rw [hr] at hbe
    cases hb : besN s.m (placed s.m.fs (wantAt its s.m k s.m.top)) with
    | true => rfl
    | false => rw [hb] at hbe; cases hbe
  have hflen : s.m.fs.length < 1000 := by have := hA.fs; omega
  have HFn := Lib.hid (fun (w1 : World) F (a : S w1 F P.p s.m.fs) (b : Bl w1 P.p P.bb s.m) (c : ¬ F P.bb) => lfloat_no hO hP w1 F P.p P.bb s.m (wantAt its s.m k s.m.top) a b c hm hfine hx hflen hN)
  have HZ := Lib.hid (show s.box.set k noBx = s.box by
    apply List.ext_getElem?
    intro i
    rw [List.getElem?_set]
    split
    · next e => subst e; rw [hzb]; try rw [if_pos hkb]
    · rfl)
  obtain ⟨X, hX⟩ : ∃ X, lnOf s.m = X := ⟨_, rfl⟩
  obtain ⟨x, hxx⟩ : ∃ x, wantAt its s.m k s.m.top = x := ⟨_, rfl⟩
  have HXX := Lib.hid (show wantAt its s.m k X.t = x by rw [← hX]; exact hxx)
  rw [hxx] at HFn
  rw [hX] at HNo
  clear hr hzb hN hbe hflen hxx hx
  have HX := Lib.hid hX
  have hki : (k : Int) < (s.box.length : Int) := by omega
  have hk0 : ¬ (k : Int) < 0 := by omega
  have HL := Lib.hid (⟨hk, hkb⟩ : k < its.length ∧ k < s.box.length)
  have HK := Lib.hid h
  obtain ⟨c0, -⟩ := h.cells
  clear h hA hk h0 hm hfine hwl hz hkk hkb hX
  go_enter Tryz.func45, Tryz.ntmps45
  go_upto_region 2 with (first
    | (go_at_call 46; refine HNo.out.mono ?_; rintro e w1 ⟨rfl, k1⟩; have K1 := Lib.hid k1; clear k1))
  clear c0
  generalize hW1 : World.alloc w1 _ = V
  obtain ⟨b5, hb5⟩ : ∃ b5, w1.heap.size = b5 := ⟨_, rfl⟩
  have k2 : Below w1.heap.size w1 V := by rw [← hW1]; exact ba1 _ _
  have z5 : RowAt V b5 (lnrow X) := by rw [← hW1, ← hb5]; exact RowAt.new w1 _ _
  have hno : ∀ i j, part P q i j → ¬ j = b5 := fun i j e x => by have := HK.out.low hO i j e; have := K1.out.size; omega
  rw [hb5]
  have S2 := Lib.hid (⟨HK.out.below hO (thru K1.out k2), Grew.of_below (thru K1.out k2), z5, hno⟩ : Kat S V P q its s ∧ Grew P q q w V ∧ RowAt V b5 (lnrow X) ∧ ∀ i j, part P q i j → ¬ j = b5)
  clear hW1 hb5 k2 z5 hno K1 HK HNo
  have HW := Lib.hid (fun (st : Nat) w' G (j : stK S V P q its (fun _ => s) st w' G) => show (∃ F', Kat S w' P { q with F := F' } its s) ∧ RowAt w' b5 (lnrow X) by
    obtain ⟨-, ⟨q', a, b, -⟩, -⟩ := j
    exact ⟨⟨q', a⟩, S2.out.2.2.1.but (by simp) b.but (fun ⟨i, _, e⟩ => S2.out.2.2.2 i b5 e rfl)⟩)
  have HC0 := Lib.hid (fun (st : Nat) w' G (j : stK S V P q its (fun _ => s) st w' G) => (show w'.cell? ⟨P.kb, 0, none⟩ = some (.pointer (some ⟨P.bb, 0, none⟩)) by
    obtain ⟨q', a⟩ := (HW.out st w' G j).1
    exact a.kr.at' 0))
  have HWa := Lib.hid (fun (st : Nat) w' G (j : stK S V P q its (fun _ => s) st w' G) => show Calls Tryz.prog 49 #[.pointer (some ⟨P.kb, 0, none⟩), .int .i64 (k : Int), .int .i64 X.t] w' fun e w'' => e = .returned x.v ∧ Below w'.heap.size w' w'' by
    obtain ⟨q', a⟩ := (HW.out st w' G j).1
    have := want_any hO a HL.out.1 X.t
    rw [HXX.out] at this
    exact this)
  have HFl := Lib.hid (fun (st : Nat) w' G (j : stK S V P q its (fun _ => s) st w' G) => show Calls Tryz.prog 65 #[.pointer (some ⟨P.bb, 0, none⟩), x.v] w' fun e w'' => e = .returned (.tuple #[.agg #[.int .i64 0, .int .i64 0, .int .i64 0, .int .i64 0], .bool false]) ∧ Below w'.heap.size w' w'' by
    obtain ⟨q', a⟩ := (HW.out st w' G j).1
    exact HFn.out w' _ a.sp a.bl (fun e => absurd (a.ap 0 1 P.bb e rfl) (by decide)))
  have HK0 := Lib.hid (stK_start (ss := fun _ => s) hO S2.out.1)
  clear HFn
  refine Draw.wp_region_drawn (stK S V P q its (fun _ => s)) 0 [.val (.pointer (some ⟨P.kb, 0, none⟩)), .val (.pointer (some ⟨P.kb, 0, none⟩)), .val (.pointer (some ⟨P.kb, 0, none⟩)), .val (.pointer (some ⟨P.bb, 0, none⟩)), .val (.pointer (some ⟨P.kb, 0, none⟩)), .val (.int .i64 (k : Int)), .val (.pointer (some ⟨b5, 0, none⟩)), .val (.pointer (some ⟨b5, 1, none⟩)), .val (.int .i64 X.t), .val (x.v), .val (.tuple #[.agg #[.int .i64 0, .int .i64 0, .int .i64 0, .int .i64 0], .bool false]), .val (.tuple #[.agg #[.int .i64 0, .int .i64 0, .int .i64 0, .int .i64 0], .bool false]), .val (.agg #[.int .i64 0, .int .i64 0, .int .i64 0, .int .i64 0]), .val (.bool false), .box (.cells #[.int .i64 0, .int .i64 0, .int .i64 0, .int .i64 0] 42), .put 14 (.cells #[.int .i64 0, .int .i64 0, .int .i64 0, .int .i64 0] 42), .val (.bool false)] (by kernel_rfl) (by kernel_rfl) (by kernel_rfl) (stK_kept hO) HK0.out ?_ ?_
  · simp only [Draw.fill, Draw.Leave.value]
    refine ⟨?_, ?_, ?_, ?_, ?_, ?_, ?_, ?_, ?_, ?_, ?_, ?_, ?_, ?_, ?_, ?_, ?_, trivial⟩
    · intro st gg w' G hw hk
      go_simp
      exact ⟨rfl, rfl⟩
    · intro st gg w' G hw hk
      go_simp
      exact ⟨rfl, rfl⟩
    · intro st gg w' G hw hk
      go_simp
      exact ⟨rfl, rfl⟩
    · intro st gg w' G hw hk
      have q0 : w'.cell? ⟨P.kb, 0, none⟩ = some (.pointer (some ⟨P.bb, 0, none⟩)) := HC0.out st w' G hw
      go_simp
      exact ⟨rfl, rfl⟩
    · intro st gg w' G hw hk
      go_simp
      exact ⟨rfl, rfl⟩
    · intro st gg w' G hw hk
      go_simp
      exact ⟨rfl, rfl⟩
    · intro st gg w' G hw hk
      go_simp
      exact ⟨rfl, rfl⟩
    · intro st gg w' G hw hk
      go_simp
      exact ⟨rfl, rfl⟩
    · intro st gg w' G hw hk
      have q0 : w'.cell? ⟨b5, 1, none⟩ = some (.int .i64 X.t) := ((HW.out st w' G hw).2).at' 1
      go_simp
      exact ⟨rfl, rfl⟩
    · intro st gg w' G hw hk
      go_simp
      exact Draw.stays_call (HWa.out st w' G hw)
    · intro st gg w' G hw hk
      go_simp
      exact Draw.stays_call (HFl.out st w' G hw)
    · intro st gg w' G hw hk
      go_simp
      exact ⟨rfl, rfl⟩
    · intro st gg w' G hw hk
      go_simp
      exact ⟨rfl, rfl⟩
    · intro st gg w' G hw hk
      go_simp
      exact ⟨rfl, rfl⟩
    · intro st gg w' G hw hk
      go_simp
    · intro st gg w' G hw y b hy hob hb
      obtain rfl : Draw.Leave.box _ = y := Option.some.inj hy
      obtain rfl : _ = b := Option.some.inj hob
      obtain ⟨r0, r1, r2, r3⟩ := R4.of_block hb
      obtain ⟨f0, f1, f2, f3⟩ := free4 hb
      refine ⟨_, ?_, only_put4 _ 0 0 0 0 0 0 0 0 hb⟩
      clear hb
      go_simp
      rfl
    · intro st gg w' G hw hk
      go_simp
      exact ⟨rfl, rfl⟩
  intro gg w5 G5 hkw hbox hput hap
  have p14 : w5.heap[gg 14]? = some (.cells #[.int .i64 0, .int .i64 0, .int .i64 0, .int .i64 0] 42) := hput 15 14 _ rfl
  obtain ⟨-, ⟨F5, a5, b5', c5⟩, -⟩ := hkw
  have hbx := (hbox 14 _ _ rfl rfl).1
  simp only [Draw.fill, Draw.Leave.value]
  go_simp
  have S5 := Lib.hid (⟨a5, S2.out.2.1.trans b5', rowAt_of p14, fun i j e x => c5 (gg 14) hbx i (by rw [← x]; exact e)⟩ : Kat S w5 P { q with F := F5 } its s ∧ Grew P q { q with F := F5 } w w5 ∧ RowAt w5 (gg 14) [.int .i64 0, .int .i64 0, .int .i64 0, .int .i64 0] ∧ ∀ i j, part P { q with F := F5 } i j → ¬ j = gg 14)
  generalize gg 14 = g7 at *
  clear a5 b5' c5 p14 hbx hbox hput hap HC0 HWa HFl HK0 HW
  go_upto_region 3 with fail
  have HKr := Lib.hid (fun w' (i : Below w5.heap.size w5 w') => show w'.cell? ⟨P.kb, 7, none⟩ = some (.slice (some ⟨P.bx, 0, none⟩) s.box.length s.box.length) from (S5.out.1.below hO i).kr.at' 7)
  have HG7 := Lib.hid (fun w' (i : Below w5.heap.size w5 w') => S5.out.2.2.1.below (by simp) i)
  refine Hold.wp_region_hold [.val (.pointer (some ⟨P.kb, 0, none⟩)), .val (.pointer (some ⟨P.kb, 0, none⟩)), .val (.pointer (some ⟨P.kb, 7, none⟩)), .val (.pointer (some ⟨P.kb, 7, none⟩)), .val (.slice (some ⟨P.bx, 0, none⟩) s.box.length s.box.length), .val (.int .i64 (k : Int)), .val (.agg #[.int .i64 0, .int .i64 0, .int .i64 0, .int .i64 0])] (by kernel_rfl) (by kernel_rfl) (by kernel_rfl) ?_ ?_
  · simp only [Hold.fill, Hold.Leave.value]
    refine ⟨?_, ?_, ?_, ?_, ?_, ?_, ?_, trivial⟩
    · intro gg w' hw hk
      go_simp
      exact ⟨rfl, rfl⟩
    · intro gg w' hw hk
      go_simp
      exact ⟨rfl, rfl⟩
    · intro gg w' hw hk
      go_simp
      exact ⟨rfl, rfl⟩
    · intro gg w' hw hk
      go_simp
      exact ⟨rfl, rfl⟩
    · intro gg w' hw hk
      have q0 : w'.cell? ⟨P.kb, 7, none⟩ = some (.slice (some ⟨P.bx, 0, none⟩) s.box.length s.box.length) := HKr.out w' hw
      go_simp
      exact ⟨rfl, rfl⟩
    · intro gg w' hw hk
      go_simp
      exact ⟨rfl, rfl⟩
    · intro gg w' hw hk
      have q0 : w'.cell? ⟨g7, 0, none⟩ = some (.int .i64 0) := (HG7.out w' hw).at' 0
      have q1 : w'.cell? ⟨g7, 1, none⟩ = some (.int .i64 0) := (HG7.out w' hw).at' 1
      have q2 : w'.cell? ⟨g7, 2, none⟩ = some (.int .i64 0) := (HG7.out w' hw).at' 2
      have q3 : w'.cell? ⟨g7, 3, none⟩ = some (.int .i64 0) := (HG7.out w' hw).at' 3
      go_simp
      exact ⟨rfl, rfl⟩
  intro gg w6 k6 hgg
  clear hgg
  simp only [Hold.fill, Hold.Leave.value, List.length_cons, List.length_nil, List.drop_succ_cons, List.drop_zero]
  have hK6 := S5.out.1.below hO k6
  have S6 := Lib.hid (⟨hK6, S5.out.2.1.trans (Grew.of_below k6)⟩ : Kat S w6 P { q with F := F5 } its s ∧ Grew P q { q with F := F5 } w w6)
  obtain ⟨bo, hbo, d0, d1, d2, d3, fz⟩ := box_cells hK6.bo (k := k) (by show k < s.box.length; exact HL.out.2)
  have f0 := fz (k * 4)
  have f1 := fz (k * 4 + 1)
  have f2 := fz (k * 4 + 2)
  have f3 := fz (k * 4 + 3)
  clear k6 hK6 hbo fz HKr HG7 S5
  go_simp
  go_wp2_with fail
  obtain ⟨a6, b6⟩ := S6.out
  obtain ⟨c1, c2⟩ := mineB_put a6.bo (k := k) (by show k < s.box.length; exact HL.out.2) (noBx)
  obtain ⟨e1, e2⟩ := a6.boxed hO (bs := s.box.set k (noBx)) List.length_set c1 c2
  go_ret
  rw [HZ.out] at e1
  exact ⟨rfl, F5, e1, b6.trans e2⟩

end

end Go.Proofs.YtdibdfalahjmbaaGreat.Text
