/- The law: a line begins at the highest place, row by row, where its first atom has room, or where no float reaches in. -/
import Derived.Test.YtmgokpdeolnidaaPart36
import Derived.Test.YtmgokpdeolnidaaPart25
import Derived.Test.YtmgokpdeolnidaaPart24
namespace Go.Proofs.Ytmgokpdeolnidaa.Line
open Go.RowKit Go.Sort Go.Proofs.Ytmgokpdeolnidaa.Rect Go.Proofs.Ytmgokpdeolnidaa.More Go.Proofs.Ytmgokpdeolnidaa.Shelf Go.Proofs.Ytmgokpdeolnidaa.Space Go.Proofs.Ytmgokpdeolnidaa.Place
set_option linter.unusedVariables false
set_option linter.unusedSimpArgs false

theorem only_put2 {T : TypeId} {w : World} {g : Nat} (a b c d : Int) (h : w.heap[g]? = some (.cells #[.int .i64 a, .int .i64 b] T)) :
    ((w.setCell ⟨g, 0, none⟩ (.int .i64 c)).setCell ⟨g, 1, none⟩ (.int .i64 d)).heap[g]? = some (.cells #[.int .i64 c, .int .i64 d] T) ∧ Draw.Only g w ((w.setCell ⟨g, 0, none⟩ (.int .i64 c)).setCell ⟨g, 1, none⟩ (.int .i64 d)) :=
  ⟨by simp [World.setCell, Array.getElem?_modify, h], (Draw.Only.set g _ 0 _).trans (Draw.Only.set g _ 1 _)⟩

/-- What the law's closure has: the atom, the space, the columns, and their ends, in boxes. -/
structure Caught (w : World) (g1 g2 g3 g4 g5 : Nat) (p : Addr) (z : Sz) (f t : Int) : Prop where
  z : RowAt w g1 (zcells z)
  s : RowAt w g2 [.pointer (some p)]
  c : RowAt w g3 (two f t)
  f : RowAt w g4 [.int .i64 f]
  t : RowAt w g5 [.int .i64 t]
theorem Caught.below {w w' : World} {g1 g2 g3 g4 g5 : Nat} {p : Addr} {z : Sz} {f t : Int} (h : Caught w g1 g2 g3 g4 g5 p z f t) (k : Below w.heap.size w w') : Caught w' g1 g2 g3 g4 g5 p z f t :=
  ⟨h.z.below (by simp) k, h.s.below (by simp) k, h.c.below (by simp) k, h.f.below (by simp) k, h.t.below (by simp) k⟩
theorem Caught.but {G : Nat → Prop} {w w' : World} {g1 g2 g3 g4 g5 : Nat} {p : Addr} {z : Sz} {f t : Int} (h : Caught w g1 g2 g3 g4 g5 p z f t) (k : But G w w') (h1 : ¬ G g1) (h2 : ¬ G g2) (h3 : ¬ G g3) (h4 : ¬ G g4) (h5 : ¬ G g5) : Caught w' g1 g2 g3 g4 g5 p z f t :=
  ⟨h.z.but (by simp) k h1, h.s.but (by simp) k h2, h.c.but (by simp) k h3, h.f.but (by simp) k h4, h.t.but (by simp) k h5⟩
theorem Caught.all {w : World} {g1 g2 g3 g4 g5 : Nat} {p : Addr} {z : Sz} {f t : Int} (h : Caught w g1 g2 g3 g4 g5 p z f t) :
    w.cell? ⟨g1, 0, none⟩ = some (.int .i64 z.wd) ∧ w.cell? ⟨g1, 1, none⟩ = some (.int .i64 z.ht) ∧ w.cell? ⟨g2, 0, none⟩ = some (.pointer (some p)) ∧ w.cell? ⟨g3, 0, none⟩ = some (.int .i64 f) ∧ w.cell? ⟨g3, 1, none⟩ = some (.int .i64 t) ∧ w.cell? ⟨g4, 0, none⟩ = some (.int .i64 f) ∧ w.cell? ⟨g5, 0, none⟩ = some (.int .i64 t) :=
  ⟨h.z.at' 0, h.z.at' 1, h.s.at' 0, h.c.at' 0, h.c.at' 1, h.f.at' 0, h.t.at' 0⟩

section
variable {S : World → (Nat → Prop) → Addr → List Fl → Prop}

set_option maxRecDepth 100000 in
set_option maxHeartbeats 2000000 in
theorem lroom_any (hO : SpaceOk S) (w : World) (F : Nat → Prop) (p : Addr) (fs : List Fl) (g1 g2 g3 g4 g5 : Nat) (z : Sz) (f t q : Int) (hs : S w F p fs) (h49 : fs.all near49 = true) (hc : Caught w g1 g2 g3 g4 g5 p z f t) (hz : RightS z) (hf : -140737488355328 ≤ f ∧ f ≤ 140737488355328) (ht : -140737488355328 ≤ t ∧ t ≤ 140737488355328) (hq : -4503599627370496 ≤ q ∧ q ≤ 4503599627370496) :
    Calls Try.prog 25 #[.int .i64 q, .pointer (some ⟨g1, 0, none⟩), .pointer (some ⟨g2, 0, none⟩), .pointer (some ⟨g3, 0, none⟩), .pointer (some ⟨g4, 0, none⟩), .pointer (some ⟨g5, 0, none⟩)] w fun e w' => e = .returned (.bool (okL fs f t z q)) ∧ Below w.heap.size w w' := by
  have hz2 := hz.h2
  have HRo := Lib.hid (fun w1 => hO.rows q z.ht w1 ⟨by omega, by omega⟩ (by omega))
  have hhz : highZ z.ht ≤ 4503599627370496 := by unfold highZ; split <;> omega
  have HFr := Lib.hid (fun w1 (h : S w1 F p fs) => hO.free w1 F p fs f t q (q + highZ z.ht) h (near49_near h49) (by omega) (by omega))
  have HBo := Lib.hid (fun w1 (h : S w1 F p fs) => hO.bounds w1 F p fs q (q + highZ z.ht) h (near49_near h49) (by omega) (by omega))
  obtain ⟨v, hv⟩ : ∃ v, okL fs f t z q = v := ⟨_, rfl⟩
  rw [hv]
  unfold okL freeL freeR at hv
  obtain ⟨L1, L2⟩ := bandL_49 h49 q (q + highZ z.ht)
  obtain ⟨R1, R2⟩ := bandR_49 h49 q (q + highZ z.ht)
  generalize q + highZ z.ht = yh at *
  generalize bandL fs q yh = bl at *
  generalize bandR fs q yh = br at *
  obtain ⟨L, hL⟩ : ∃ L, max f bl = L := ⟨_, rfl⟩
  obtain ⟨R, hR⟩ : ∃ R, min t br = R := ⟨_, rfl⟩
  rw [hL, hR] at HFr hv
  obtain ⟨d, hd⟩ : ∃ d, R - L = d := ⟨_, rfl⟩
  obtain ⟨e, he⟩ : ∃ e, t - f = e := ⟨_, rfl⟩
  rw [hd, he] at hv
  have HLd := Lib.hid (fun w => llen_is L R d (by rw [IntWalk.i64_in _ (by omega)]; exact hd) w)
  have HLe := Lib.hid (fun w => llen_is f t e (by rw [IntWalk.i64_in _ (by omega)]; exact he) w)
  have HV := Lib.hid hv
  have HS := Lib.hid hs
  have HC := Lib.hid hc
  clear hs h49 hc hz hz2 hf ht hq hhz hv L1 L2 R1 R2 hL hR hd he
  go_enter Try.func25, Try.ntmps25
  obtain ⟨c0, c1, c2, c3, c4, c5, c6⟩ := HC.out.all
  go_upto_region 2 with (first
    | (go_at_call 20; refine (HRo.out _).mono ?_; rintro e1 w1 ⟨rfl, k1⟩; have K1 := Lib.hid k1; clear k1))
  clear c0 c1 c2 c3 c4 c5 c6
  generalize hW : World.alloc w1 _ = W
  obtain ⟨b0, hb0⟩ : ∃ b0, w1.heap.size = b0 := ⟨_, rfl⟩
  have k1 : Below w1.heap.size w1 W := by rw [← hW]; exact ba1 _ _
  have z1 : RowAt W b0 (two q yh) := by rw [← hW, ← hb0]; exact RowAt.new w1 _ _
  rw [hb0]
  have S1 := Lib.hid (⟨thru K1.out k1, thruS hO HS.out (thru K1.out k1), HC.out.below (thru K1.out k1), z1⟩ : Below w.heap.size w W ∧ S W F p fs ∧ Caught W g1 g2 g3 g4 g5 p z f t ∧ RowAt W b0 (two q yh))
  clear hW hb0 k1 z1 K1 HS HC
  have HA := Lib.hid (fun (st : Nat) w' G (j : Draw.quiet W st w' G) => (S1.out.2.2.1.below j.1).all)
  have HT := Lib.hid (fun (st : Nat) w' G (j : Draw.quiet W st w' G) => two_of (S1.out.2.2.2.below (by simp) j.1))
  have HSS := Lib.hid (fun (st : Nat) w' G (j : Draw.quiet W st w' G) => thruS hO S1.out.2.1 j.1)
  refine Draw.wp_region_drawn (Draw.quiet W) 0 [.val (.pointer (some p)), .val (.agg #[.int .i64 f, .int .i64 t]), .val (.agg #[.int .i64 q, .int .i64 yh]), .val (.agg #[.int .i64 L, .int .i64 R]), .val (.pointer (some p)), .val (.agg #[.int .i64 q, .int .i64 yh]), .val (.agg #[.int .i64 bl, .int .i64 br]), .box (.cells #[.int .i64 0, .int .i64 0] 31), .box (.cells #[.int .i64 0, .int .i64 0] 31), .put 7 (.cells #[.int .i64 L, .int .i64 R] 31), .put 8 (.cells #[.int .i64 bl, .int .i64 br] 31)] (by kernel_rfl) (by kernel_rfl) (by kernel_rfl) (Draw.quiet_kept W) (Draw.quiet_start W) ?_ ?_
  · simp only [Draw.fill, Draw.Leave.value]
    refine ⟨?_, ?_, ?_, ?_, ?_, ?_, ?_, ?_, ?_, ?_, ?_, trivial⟩
    · intro st gg w' G hw hk
      have q := HA.out st w' G hw
      have q2 := q.2.2.1
      clear q
      go_simp
      exact ⟨rfl, rfl⟩
    · intro st gg w' G hw hk
      have q := HA.out st w' G hw
      have q3 := q.2.2.2.1
      have q4 := q.2.2.2.2.1
      clear q
      go_simp
      exact ⟨rfl, rfl⟩
    · intro st gg w' G hw hk
      have q0 := (HT.out st w' G hw).1
      have q1 := (HT.out st w' G hw).2.1
      go_simp
      exact ⟨rfl, rfl⟩
    · intro st gg w' G hw hk
      go_simp
      exact Draw.stays_call (HFr.out w' (HSS.out st w' G hw))
    · intro st gg w' G hw hk
      have q := HA.out st w' G hw
      have q2 := q.2.2.1
      clear q
      go_simp
      exact ⟨rfl, rfl⟩
    · intro st gg w' G hw hk
      have q0 := (HT.out st w' G hw).1
      have q1 := (HT.out st w' G hw).2.1
      go_simp
      exact ⟨rfl, rfl⟩
    · intro st gg w' G hw hk
      go_simp
      exact Draw.stays_call (HBo.out w' (HSS.out st w' G hw))
    · intro st gg w' G hw hk
      go_simp
    · intro st gg w' G hw hk
      go_simp
    · intro st gg w' G hw y b hy hob hb
      obtain rfl : Draw.Leave.box _ = y := Option.some.inj hy
      obtain rfl : _ = b := Option.some.inj hob
      obtain ⟨r0, r1, f0, f1⟩ := two_of (rowAt_of (xs := two 0 0) hb)
      refine ⟨_, ?_, only_put2 0 0 L R hb⟩
      clear hb
      go_simp
      rfl
    · intro st gg w' G hw y b hy hob hb
      obtain rfl : Draw.Leave.box _ = y := Option.some.inj hy
      obtain rfl : _ = b := Option.some.inj hob
      obtain ⟨r0, r1, f0, f1⟩ := two_of (rowAt_of (xs := two 0 0) hb)
      refine ⟨_, ?_, only_put2 0 0 bl br hb⟩
      clear hb
      go_simp
      rfl
  intro gg w5 G5 k5 hbox hput hap
  have p7 : w5.heap[gg 7]? = some (.cells (two L R).toArray 31) := hput 9 7 _ rfl
  have p8 : w5.heap[gg 8]? = some (.cells (two bl br).toArray 31) := hput 10 8 _ rfl
  simp only [Draw.fill, Draw.Leave.value]
  go_simp
  generalize gg 7 = ga at *
  generalize gg 8 = gb at *
  have S5 := Lib.hid (⟨thru S1.out.1 k5.1, S1.out.2.2.1.below k5.1, rowAt_of p7, rowAt_of p8⟩ : Below w.heap.size w w5 ∧ Caught w5 g1 g2 g3 g4 g5 p z f t ∧ RowAt w5 ga (two L R) ∧ RowAt w5 gb (two bl br))
  clear hbox hput hap p7 p8 k5 S1 HA HT HSS HFr HBo HRo
  have HA := Lib.hid (fun w' (j : Below w5.heap.size w5 w') => (S5.out.2.1.below j).all)
  have HFF := Lib.hid (fun w' (j : Below w5.heap.size w5 w') => two_of (S5.out.2.2.1.below (by simp) j))
  have HBB := Lib.hid (fun w' (j : Below w5.heap.size w5 w') => two_of (S5.out.2.2.2.below (by simp) j))
  go_upto_region 3 with fail
  by_cases h1 : z.wd ≤ d
  · have H1 := Lib.hid h1
    have hvt : v = true := by rw [← HV.out, decide_eq_true h1]; rfl
    subst hvt
    clear h1 HV
    refine Hold2.wp_region_hold_all2 [.val (.pointer (some ⟨g1, 0, none⟩)), .val (.int .i64 z.wd), .val (.agg #[.int .i64 L, .int .i64 R]), .val (.int .i64 d), .val (.bool true), .val (.bool true), .skip, .skip, .skip, .skip, .skip, .skip, .skip, .skip, .skip, .skip, .skip, .skip, .skip, .skip, .skip, .skip, .skip, .val (.bool true), .val (.bool true)] (by kernel_rfl) (by kernel_rfl) (by kernel_rfl) ?_ ?_
    · simp only [Hold.fill, Hold.Leave.value]
      refine ⟨?_, ?_, ?_, ?_, ?_, ?_, trivial, trivial, trivial, trivial, trivial, trivial, trivial, trivial, trivial, trivial, trivial, trivial, trivial, trivial, trivial, trivial, trivial, ?_, ?_, trivial⟩
      · intro gg w' hw hk
        go_simp
        exact ⟨rfl, rfl⟩
      · intro gg w' hw hk
        have q := HA.out w' hw
        have q0 := q.1
        clear q
        go_simp
        exact ⟨rfl, rfl⟩
      · intro gg w' hw hk
        have q0 := (HFF.out w' hw).1
        have q1 := (HFF.out w' hw).2.1
        go_simp
        exact ⟨rfl, rfl⟩
      · intro gg w' hw hk
        go_simp
        exact Hold.stays_call (HLd.out w')
      · intro gg w' hw hk
        have q := H1.out
        go_simp
        exact ⟨rfl, rfl⟩
      · intro gg w' hw hk
        go_simp
        exact ⟨rfl, rfl⟩
      · intro gg w' hw hk
        go_simp
        exact ⟨rfl, rfl⟩
      · intro gg w' hw hk
        go_simp
        exact ⟨rfl, rfl⟩
    intro gg w6 k6 hgg
    clear hgg
    simp only [Hold.fill, Hold.Leave.value]
    have K6 := Lib.hid (thru S5.out.1 k6)
    clear k6
    go_simp
    go_wp2_with fail
    go_ret
    exact ⟨rfl, K6.out⟩
  · have H1 := Lib.hid h1
    have hv2 : (decide (e < z.wd) && decide (bl ≤ f) && decide (t ≤ br)) = v := by rw [← HV.out, decide_eq_false h1]; rfl
    have HV2 := Lib.hid hv2
    clear h1 HV hv2
    by_cases h2 : e < z.wd
    · have H2 := Lib.hid h2
      by_cases h3 : bl ≤ f
      · have H3 := Lib.hid h3
        by_cases h4 : t ≤ br
        · have H4 := Lib.hid h4
          have hvt : v = true := by rw [← HV2.out, decide_eq_true h2, decide_eq_true h3, decide_eq_true h4]; rfl
          subst hvt
          clear h2 h3 h4 HV2
          refine Hold2.wp_region_hold_all2 [.val (.pointer (some ⟨g1, 0, none⟩)), .val (.int .i64 z.wd), .val (.agg #[.int .i64 L, .int .i64 R]), .val (.int .i64 d), .val (.bool false), .val (.bool false), .val (.pointer (some ⟨g1, 0, none⟩)), .val (.int .i64 z.wd), .val (.agg #[.int .i64 f, .int .i64 t]), .val (.int .i64 e), .val (.bool true), .val (.bool true), .val (.pointer (some ⟨gb, 0, none⟩)), .val (.int .i64 bl), .val (.int .i64 f), .val (.bool true), .val (.bool true), .val (.bool true), .val (.pointer (some ⟨gb, 1, none⟩)), .val (.int .i64 br), .val (.int .i64 t), .val (.bool true), .val (.bool true), .val (.bool true), .val (.bool true)] (by kernel_rfl) (by kernel_rfl) (by kernel_rfl) ?_ ?_
          · simp only [Hold.fill, Hold.Leave.value]
            refine ⟨?_, ?_, ?_, ?_, ?_, ?_, ?_, ?_, ?_, ?_, ?_, ?_, ?_, ?_, ?_, ?_, ?_, ?_, ?_, ?_, ?_, ?_, ?_, ?_, ?_, trivial⟩
            · intro gg w' hw hk
              go_simp
              exact ⟨rfl, rfl⟩
            · intro gg w' hw hk
              have q := HA.out w' hw
              have q0 := q.1
              clear q
              go_simp
              exact ⟨rfl, rfl⟩
            · intro gg w' hw hk
              have q0 := (HFF.out w' hw).1
              have q1 := (HFF.out w' hw).2.1
              go_simp
              exact ⟨rfl, rfl⟩
            · intro gg w' hw hk
              go_simp
              exact Hold.stays_call (HLd.out w')
            · intro gg w' hw hk
              have q := H1.out
              go_simp
              exact ⟨rfl, rfl⟩
            · intro gg w' hw hk
              go_simp
              exact ⟨rfl, rfl⟩
            · intro gg w' hw hk
              go_simp
              exact ⟨rfl, rfl⟩
            · intro gg w' hw hk
              have q := HA.out w' hw
              have q0 := q.1
              clear q
              go_simp
              exact ⟨rfl, rfl⟩
            · intro gg w' hw hk
              have q := HA.out w' hw
              have q3 := q.2.2.2.1
              have q4 := q.2.2.2.2.1
              clear q
              go_simp
              exact ⟨rfl, rfl⟩
            · intro gg w' hw hk
              go_simp
              exact Hold.stays_call (HLe.out w')
            · intro gg w' hw hk
              have q := H2.out
              go_simp
              exact ⟨rfl, rfl⟩
            · intro gg w' hw hk
              go_simp
              exact ⟨rfl, rfl⟩
            · intro gg w' hw hk
              go_simp
              exact ⟨rfl, rfl⟩
            · intro gg w' hw hk
              have q := (HBB.out w' hw).1
              go_simp
              exact ⟨rfl, rfl⟩
            · intro gg w' hw hk
              have q := HA.out w' hw
              have q5 := q.2.2.2.2.2.1
              clear q
              go_simp
              exact ⟨rfl, rfl⟩
            · intro gg w' hw hk
              have q := H3.out
              go_simp
              exact ⟨rfl, rfl⟩
            · intro gg w' hw hk
              go_simp
              exact ⟨rfl, rfl⟩
            · intro gg w' hw hk
              go_simp
              exact ⟨rfl, rfl⟩
            · intro gg w' hw hk
              go_simp
              exact ⟨rfl, rfl⟩
            · intro gg w' hw hk
              have q := (HBB.out w' hw).2.1
              go_simp
              exact ⟨rfl, rfl⟩
            · intro gg w' hw hk
              have q := HA.out w' hw
              have q6 := q.2.2.2.2.2.2
              clear q
              go_simp
              exact ⟨rfl, rfl⟩
            · intro gg w' hw hk
              have q := H4.out
              go_simp
              exact ⟨rfl, rfl⟩
            · intro gg w' hw hk
              go_simp
              exact ⟨rfl, rfl⟩
            · intro gg w' hw hk
              go_simp
              exact ⟨rfl, rfl⟩
            · intro gg w' hw hk
              go_simp
              exact ⟨rfl, rfl⟩
          intro gg w6 k6 hgg
          clear hgg
          simp only [Hold.fill, Hold.Leave.value]
          have K6 := Lib.hid (thru S5.out.1 k6)
          clear k6
          go_simp
          go_wp2_with fail
          go_ret
          exact ⟨rfl, K6.out⟩
        · have H4 := Lib.hid h4
          have hvt : v = false := by rw [← HV2.out, decide_eq_false h4, Bool.and_false]
          subst hvt
          clear h2 h3 h4 HV2
          refine Hold2.wp_region_hold_all2 [.val (.pointer (some ⟨g1, 0, none⟩)), .val (.int .i64 z.wd), .val (.agg #[.int .i64 L, .int .i64 R]), .val (.int .i64 d), .val (.bool false), .val (.bool false), .val (.pointer (some ⟨g1, 0, none⟩)), .val (.int .i64 z.wd), .val (.agg #[.int .i64 f, .int .i64 t]), .val (.int .i64 e), .val (.bool true), .val (.bool true), .val (.pointer (some ⟨gb, 0, none⟩)), .val (.int .i64 bl), .val (.int .i64 f), .val (.bool true), .val (.bool true), .val (.bool true), .val (.pointer (some ⟨gb, 1, none⟩)), .val (.int .i64 br), .val (.int .i64 t), .val (.bool false), .val (.bool false), .val (.bool false), .val (.bool false)] (by kernel_rfl) (by kernel_rfl) (by kernel_rfl) ?_ ?_
          · simp only [Hold.fill, Hold.Leave.value]
            refine ⟨?_, ?_, ?_, ?_, ?_, ?_, ?_, ?_, ?_, ?_, ?_, ?_, ?_, ?_, ?_, ?_, ?_, ?_, ?_, ?_, ?_, ?_, ?_, ?_, ?_, trivial⟩
            · intro gg w' hw hk
              go_simp
              exact ⟨rfl, rfl⟩
            · intro gg w' hw hk
              have q := HA.out w' hw
              have q0 := q.1
              clear q
              go_simp
              exact ⟨rfl, rfl⟩
            · intro gg w' hw hk
              have q0 := (HFF.out w' hw).1
              have q1 := (HFF.out w' hw).2.1
              go_simp
              exact ⟨rfl, rfl⟩
            · intro gg w' hw hk
              go_simp
              exact Hold.stays_call (HLd.out w')
            · intro gg w' hw hk
              have q := H1.out
              go_simp
              exact ⟨rfl, rfl⟩
            · intro gg w' hw hk
              go_simp
              exact ⟨rfl, rfl⟩
            · intro gg w' hw hk
              go_simp
              exact ⟨rfl, rfl⟩
            · intro gg w' hw hk
              have q := HA.out w' hw
              have q0 := q.1
              clear q
              go_simp
              exact ⟨rfl, rfl⟩
            · intro gg w' hw hk
              have q := HA.out w' hw
              have q3 := q.2.2.2.1
              have q4 := q.2.2.2.2.1
              clear q
              go_simp
              exact ⟨rfl, rfl⟩
            · intro gg w' hw hk
              go_simp
              exact Hold.stays_call (HLe.out w')
            · intro gg w' hw hk
              have q := H2.out
              go_simp
              exact ⟨rfl, rfl⟩
            · intro gg w' hw hk
              go_simp
              exact ⟨rfl, rfl⟩
            · intro gg w' hw hk
              go_simp
              exact ⟨rfl, rfl⟩
            · intro gg w' hw hk
              have q := (HBB.out w' hw).1
              go_simp
              exact ⟨rfl, rfl⟩
            · intro gg w' hw hk
              have q := HA.out w' hw
              have q5 := q.2.2.2.2.2.1
              clear q
              go_simp
              exact ⟨rfl, rfl⟩
            · intro gg w' hw hk
              have q := H3.out
              go_simp
              exact ⟨rfl, rfl⟩
            · intro gg w' hw hk
              go_simp
              exact ⟨rfl, rfl⟩
            · intro gg w' hw hk
              go_simp
              exact ⟨rfl, rfl⟩
            · intro gg w' hw hk
              go_simp
              exact ⟨rfl, rfl⟩
            · intro gg w' hw hk
              have q := (HBB.out w' hw).2.1
              go_simp
              exact ⟨rfl, rfl⟩
            · intro gg w' hw hk
              have q := HA.out w' hw
              have q6 := q.2.2.2.2.2.2
              clear q
              go_simp
              exact ⟨rfl, rfl⟩
            · intro gg w' hw hk
              have q := H4.out
              go_simp
              exact ⟨rfl, rfl⟩
            · intro gg w' hw hk
              go_simp
              exact ⟨rfl, rfl⟩
            · intro gg w' hw hk
              go_simp
              exact ⟨rfl, rfl⟩
            · intro gg w' hw hk
              go_simp
              exact ⟨rfl, rfl⟩
          intro gg w6 k6 hgg
          clear hgg
          simp only [Hold.fill, Hold.Leave.value]
          have K6 := Lib.hid (thru S5.out.1 k6)
          clear k6
          go_simp
          go_wp2_with fail
          go_ret
          exact ⟨rfl, K6.out⟩
      · have H3 := Lib.hid h3
        have hvt : v = false := by rw [← HV2.out, decide_eq_false h3, Bool.and_false, Bool.false_and]
        subst hvt
        clear h2 h3 HV2
        refine Hold2.wp_region_hold_all2 [.val (.pointer (some ⟨g1, 0, none⟩)), .val (.int .i64 z.wd), .val (.agg #[.int .i64 L, .int .i64 R]), .val (.int .i64 d), .val (.bool false), .val (.bool false), .val (.pointer (some ⟨g1, 0, none⟩)), .val (.int .i64 z.wd), .val (.agg #[.int .i64 f, .int .i64 t]), .val (.int .i64 e), .val (.bool true), .val (.bool true), .val (.pointer (some ⟨gb, 0, none⟩)), .val (.int .i64 bl), .val (.int .i64 f), .val (.bool false), .val (.bool false), .val (.bool false), .skip, .skip, .skip, .skip, .val (.bool false), .val (.bool false), .val (.bool false)] (by kernel_rfl) (by kernel_rfl) (by kernel_rfl) ?_ ?_
        · simp only [Hold.fill, Hold.Leave.value]
          refine ⟨?_, ?_, ?_, ?_, ?_, ?_, ?_, ?_, ?_, ?_, ?_, ?_, ?_, ?_, ?_, ?_, ?_, ?_, trivial, trivial, trivial, trivial, ?_, ?_, ?_, trivial⟩
          · intro gg w' hw hk
            go_simp
            exact ⟨rfl, rfl⟩
          · intro gg w' hw hk
            have q := HA.out w' hw
            have q0 := q.1
            clear q
            go_simp
            exact ⟨rfl, rfl⟩
          · intro gg w' hw hk
            have q0 := (HFF.out w' hw).1
            have q1 := (HFF.out w' hw).2.1
            go_simp
            exact ⟨rfl, rfl⟩
          · intro gg w' hw hk
            go_simp
            exact Hold.stays_call (HLd.out w')
          · intro gg w' hw hk
            have q := H1.out
            go_simp
            exact ⟨rfl, rfl⟩
          · intro gg w' hw hk
            go_simp
            exact ⟨rfl, rfl⟩
          · intro gg w' hw hk
            go_simp
            exact ⟨rfl, rfl⟩
          · intro gg w' hw hk
            have q := HA.out w' hw
            have q0 := q.1
            clear q
            go_simp
            exact ⟨rfl, rfl⟩
          · intro gg w' hw hk
            have q := HA.out w' hw
            have q3 := q.2.2.2.1
            have q4 := q.2.2.2.2.1
            clear q
            go_simp
            exact ⟨rfl, rfl⟩
          · intro gg w' hw hk
            go_simp
            exact Hold.stays_call (HLe.out w')
          · intro gg w' hw hk
            have q := H2.out
            go_simp
            exact ⟨rfl, rfl⟩
          · intro gg w' hw hk
            go_simp
            exact ⟨rfl, rfl⟩
          · intro gg w' hw hk
            go_simp
            exact ⟨rfl, rfl⟩
          · intro gg w' hw hk
            have q := (HBB.out w' hw).1
            go_simp
            exact ⟨rfl, rfl⟩
          · intro gg w' hw hk
            have q := HA.out w' hw
            have q5 := q.2.2.2.2.2.1
            clear q
            go_simp
            exact ⟨rfl, rfl⟩
          · intro gg w' hw hk
            have q := H3.out
            go_simp
            exact ⟨rfl, rfl⟩
          · intro gg w' hw hk
            go_simp
            exact ⟨rfl, rfl⟩
          · intro gg w' hw hk
            go_simp
            exact ⟨rfl, rfl⟩
          · intro gg w' hw hk
            go_simp
            exact ⟨rfl, rfl⟩
          · intro gg w' hw hk
            go_simp
            exact ⟨rfl, rfl⟩
          · intro gg w' hw hk
            go_simp
            exact ⟨rfl, rfl⟩
        intro gg w6 k6 hgg
        clear hgg
        simp only [Hold.fill, Hold.Leave.value]
        have K6 := Lib.hid (thru S5.out.1 k6)
        clear k6
        go_simp
        go_wp2_with fail
        go_ret
        exact ⟨rfl, K6.out⟩
    · have H2 := Lib.hid h2
      have hvt : v = false := by rw [← HV2.out, decide_eq_false h2]; rfl
      subst hvt
      clear h2 HV2
      refine Hold2.wp_region_hold_all2 [.val (.pointer (some ⟨g1, 0, none⟩)), .val (.int .i64 z.wd), .val (.agg #[.int .i64 L, .int .i64 R]), .val (.int .i64 d), .val (.bool false), .val (.bool false), .val (.pointer (some ⟨g1, 0, none⟩)), .val (.int .i64 z.wd), .val (.agg #[.int .i64 f, .int .i64 t]), .val (.int .i64 e), .val (.bool false), .val (.bool false), .skip, .skip, .skip, .skip, .val (.bool false), .val (.bool false), .skip, .skip, .skip, .skip, .val (.bool false), .val (.bool false), .val (.bool false)] (by kernel_rfl) (by kernel_rfl) (by kernel_rfl) ?_ ?_
      · simp only [Hold.fill, Hold.Leave.value]
        refine ⟨?_, ?_, ?_, ?_, ?_, ?_, ?_, ?_, ?_, ?_, ?_, ?_, trivial, trivial, trivial, trivial, ?_, ?_, trivial, trivial, trivial, trivial, ?_, ?_, ?_, trivial⟩
        · intro gg w' hw hk
          go_simp
          exact ⟨rfl, rfl⟩
        · intro gg w' hw hk
          have q := HA.out w' hw
          have q0 := q.1
          clear q
          go_simp
          exact ⟨rfl, rfl⟩
        · intro gg w' hw hk
          have q0 := (HFF.out w' hw).1
          have q1 := (HFF.out w' hw).2.1
          go_simp
          exact ⟨rfl, rfl⟩
        · intro gg w' hw hk
          go_simp
          exact Hold.stays_call (HLd.out w')
        · intro gg w' hw hk
          have q := H1.out
          go_simp
          exact ⟨rfl, rfl⟩
        · intro gg w' hw hk
          go_simp
          exact ⟨rfl, rfl⟩
        · intro gg w' hw hk
          go_simp
          exact ⟨rfl, rfl⟩
        · intro gg w' hw hk
          have q := HA.out w' hw
          have q0 := q.1
          clear q
          go_simp
          exact ⟨rfl, rfl⟩
        · intro gg w' hw hk
          have q := HA.out w' hw
          have q3 := q.2.2.2.1
          have q4 := q.2.2.2.2.1
          clear q
          go_simp
          exact ⟨rfl, rfl⟩
        · intro gg w' hw hk
          go_simp
          exact Hold.stays_call (HLe.out w')
        · intro gg w' hw hk
          have q := H2.out
          go_simp
          exact ⟨rfl, rfl⟩
        · intro gg w' hw hk
          go_simp
          exact ⟨rfl, rfl⟩
        · intro gg w' hw hk
          go_simp
          exact ⟨rfl, rfl⟩
        · intro gg w' hw hk
          go_simp
          exact ⟨rfl, rfl⟩
        · intro gg w' hw hk
          go_simp
          exact ⟨rfl, rfl⟩
        · intro gg w' hw hk
          go_simp
          exact ⟨rfl, rfl⟩
        · intro gg w' hw hk
          go_simp
          exact ⟨rfl, rfl⟩
      intro gg w6 k6 hgg
      clear hgg
      simp only [Hold.fill, Hold.Leave.value]
      have K6 := Lib.hid (thru S5.out.1 k6)
      clear k6
      go_simp
      go_wp2_with fail
      go_ret
      exact ⟨rfl, K6.out⟩

end

end Go.Proofs.Ytmgokpdeolnidaa.Line
