
import Derived.Test.YtdibdfalahjmbaaGreatPart28
import Derived.Test.YtdibdfalahjmbaaGreatPart21
namespace Go.Proofs.YtdibdfalahjmbaaGreat.Text

open Go.RowKit Go.Sort Go.Proofs.YtdibdfalahjmbaaGreat.Rect Go.Proofs.YtdibdfalahjmbaaGreat.More Go.Proofs.YtdibdfalahjmbaaGreat.Shelf Go.Proofs.YtdibdfalahjmbaaGreat.Space Go.Proofs.YtdibdfalahjmbaaGreat.Place Go.Proofs.YtdibdfalahjmbaaGreat.Line

set_option linter.unusedVariables false

set_option linter.unusedSimpArgs false

theorem oneN_src (w : World) (k : Nat) : SrcE encN (w.alloc (.cells #[.int .i64 (k : Int)] 3)) (some ⟨w.heap.size, 0, none⟩) 1 1 [k] := oneE_src encN w k 3

section

variable {S : World → (Nat → Prop) → Addr → List Fl → Prop}

set_option maxRecDepth 100000 in
set_option maxHeartbeats 2000000 in
theorem kfloat_any (hO : SpaceOk S) (hP : PlaceOk S) {w : World} {P : Fast} {q : Loose} {its : List It} {s : Ly} {Z : Int} {k : Nat} (h : Kat S w P q its s) (hA : Able its Z k s) (hk : k < its.length) (h0 : (itAt its k).sd ≠ 0) (hzb : s.box[k]? = some noBx) :
    Calls Tryz.prog 31 #[.pointer (some ⟨P.kb, 0, none⟩), .int .i64 (k : Int)] w fun e w' => (∃ v, e = .returned v) ∧ ∃ q', Kat S w' P q' its (s.float its k) ∧ Grew P q q' w w' := by
  have haz := hA.kp.az
  cases hm : s.m.az with
  | nil =>
    have hrow : s.row.length = 0 := by rw [hm] at haz; have := congrArg List.length haz; rw [List.length_map] at this; exact this.symm
    have hfl : s.float its k = s.putN its k := by unfold Ly.float; rw [hm]; rfl
    rw [hfl]
    have hwl := hA.kp.wl
    have hz := hA.hz
    have hkk := hA.hk
    have hlo := hA.kp.lo
    have HPt := Lib.hid (kput_any hO hP h hk hA.kp.bl (by have := hA.fs; omega) (nearZ_49 hlo.fl (by omega)) ((itAt_right hA.hr hk).want h0 hlo.f1 hlo.f2 hlo.t1 hlo.t2 hlo.ft hlo.y1 (by have := hlo.y2; omega)))
    obtain ⟨-, -, -, -, -, c5, -⟩ := h.cells
    rw [hrow] at c5
    clear h hA hk h0 hzb haz hm hrow hfl hwl hz hkk hlo
    go_enter Tryz.func31, Tryz.ntmps31
    go_wp2_with (first
      | (go_at_call 34; refine HPt.out.mono ?_; rintro e w1 ⟨⟨v1, rfl⟩, F1, h1, g1⟩; have S1 := Lib.hid (⟨h1, g1⟩ : Kat S w1 P { q with F := F1 } its (s.putN its k) ∧ Grew P q { q with F := F1 } w w1); clear h1 g1))
    go_end0
    exact ⟨⟨_, rfl⟩, _, S1.out.1, S1.out.2⟩
  | cons z zs =>
    have hne : s.m.az ≠ [] := by rw [hm]; exact List.cons_ne_nil _ _
    have hrow : ¬ ((s.row.length : Int) = 0) := by rw [hm] at haz; have := congrArg List.length haz; rw [List.length_map, List.length_cons] at this; omega
    have hil := hA.hi
    have hwl := hA.kp.wl
    have hkk := hA.hk
    obtain ⟨-, -, -, -, -, c5, c6, -⟩ := h.cells
    -- it waits
    have hwait : s.float its k = s.waits k → ∀ F', Kat S w P { q with F := F' } its s → True := fun _ _ _ => trivial
    clear hwait
    cases hw : s.wait with
    | nil =>
      cases hb : (s.m.beside (wantAt its s.m k s.m.top)).2 with
      | some r =>
        have hfl : s.float its k = s.side its k r := by unfold Ly.float Ly.side; rw [hm, hw]; dsimp only; rw [hb]
        rw [hfl]
        have HB := Lib.hid (kbes_yes hO hP h hA hk h0 hne hb)
        rw [hw] at c6
        clear h hA hk h0 hzb haz hm hne hfl hil hwl hkk hw hb
        go_enter Tryz.func31, Tryz.ntmps31
        go_wp2_with (first
          | (go_at_call 45; refine HB.out.mono ?_; rintro e w1 ⟨rfl, F1, h1, g1⟩; have S1 := Lib.hid (⟨h1, g1⟩ : Kat S w1 P { q with F := F1 } its (s.side its k r) ∧ Grew P q { q with F := F1 } w w1); clear h1 g1))
        go_end0
        exact ⟨⟨_, rfl⟩, _, S1.out.1, S1.out.2⟩
      | none =>
        have hfl : s.float its k = s.waits k := by unfold Ly.float Ly.waits; rw [hm, hw]; dsimp only; rw [hb]; rfl
        rw [hfl]
        have HB := Lib.hid (kbes_no hO hP h hA hk h0 hne hb hzb)
        rw [hw] at c6
        clear h hA hk h0 hzb haz hm hne hfl hwl hkk hb
        go_enter Tryz.func31, Tryz.ntmps31
        go_upto_region 3 with (first
          | (go_at_call 45; refine HB.out.mono ?_; rintro e w1 ⟨rfl, F1, h1, g1⟩; have S1 := Lib.hid (⟨h1, g1⟩ : Kat S w1 P { q with F := F1 } its s ∧ Grew P q { q with F := F1 } w w1); clear h1 g1))
        clear c5 c6
        obtain ⟨-, -, -, -, -, -, c6, -⟩ := S1.out.1.cells
        have hwa := S1.out.1.wa
        have HW := Lib.hid (show s.wait.length = 0 by rw [hw]; rfl)
        rw [show ({ q with F := F1 } : Loose).A2 = q.A2 from rfl, show ({ q with F := F1 } : Loose).c2 = q.c2 from rfl] at c6
        clear hw
        go_wp2_with (first
          | (at_builtin; refine wpList_append_E (bytes := 8) (by omega) infoN _ rfl (.tmp 31) (.tmp 33) rfl P.B q.A2 s.wait.length q.c2 s.wait rfl (S1.out.1.wa.alloc _) (some ⟨w1.heap.size, 0, none⟩) 1 1 [k] rfl (oneN_src w1 k) (by have := HW.out; omega) (by have := S1.out.1.hB; simp; omega) ?_; intro A5 c5' w5 hA5; have r5 := ((S1.out.1.kr.below (by simp) (ba1 w1 (.cells #[.int .i64 (k : Int)] 3))).kept (hA5.2.1.block P.kb (by have := S1.out.1.klt; simp; omega) (fun e => absurd (S1.out.1.ap 5 2 P.kb e.symm rfl) (by decide)))); have d0 : w5.cell? ⟨P.kb, 6, none⟩ = some (.slice q.A2 s.wait.length q.c2) := r5.at' 6; have d1 := r5.frz 6; have H5 := Lib.hid hA5; clear hA5 r5))
        go_end0
        obtain ⟨e1, e2⟩ := (S1.out.1.below hO (ba1 w1 (.cells #[.int .i64 (k : Int)] 3))).waited hO k H5.out
        exact ⟨⟨_, rfl⟩, _, e1, (S1.out.2.trans (Grew.of_below (ba1 w1 _))).trans e2⟩
    | cons z' zs' =>
      have hfl : s.float its k = s.waits k := by unfold Ly.float Ly.waits; rw [hm, hw]
      rw [hfl]
      have hw0 : 0 < s.wait.length := by rw [hw, List.length_cons]; omega
      have hw1 : ¬ s.wait.length = 0 := by omega
      have hw2 : ¬ s.wait = [] := by rw [hw]; exact List.cons_ne_nil _ _
      have S1 := Lib.hid (⟨h, Grew.refl P q w⟩ : Kat S w P { q with F := q.F } its s ∧ Grew P q { q with F := q.F } w w)
      have HW := Lib.hid (show s.wait.length ≤ 1000 by omega)
      clear h hA hk h0 hzb haz hm hne hfl hwl hkk hw
      go_enter Tryz.func31, Tryz.ntmps31
      go_upto_region 3 with fail
      go_wp2_with (first
        | (at_builtin; refine wpList_append_E (bytes := 8) (by omega) infoN _ rfl (.tmp 31) (.tmp 33) rfl P.B q.A2 s.wait.length q.c2 s.wait rfl (S1.out.1.wa.alloc _) (some ⟨w.heap.size, 0, none⟩) 1 1 [k] rfl (oneN_src w k) (by have := HW.out; omega) (by have := S1.out.1.hB; simp; omega) ?_; intro A5 c5' w5 hA5; have r5 := ((S1.out.1.kr.below (by simp) (ba1 w (.cells #[.int .i64 (k : Int)] 3))).kept (hA5.2.1.block P.kb (by have := S1.out.1.klt; simp; omega) (fun e => absurd (S1.out.1.ap 5 2 P.kb e.symm rfl) (by decide)))); have d0 : w5.cell? ⟨P.kb, 6, none⟩ = some (.slice q.A2 s.wait.length q.c2) := r5.at' 6; have d1 := r5.frz 6; have H5 := Lib.hid hA5; clear hA5 r5))
      go_end0
      obtain ⟨e1, e2⟩ := (S1.out.1.below hO (ba1 w (.cells #[.int .i64 (k : Int)] 3))).waited hO k H5.out
      exact ⟨⟨_, rfl⟩, _, e1, (S1.out.2.trans (Grew.of_below (ba1 w _))).trans e2⟩

theorem Kat.added (hO : SpaceOk S) {w : World} {P : Fast} {q : Loose} {its : List It} {s : Ly} (h : Kat S w P q its s) (hf : Fine s.m) {z : Sz} (hz : RightS z) :
    Calls Tryz.prog 44 #[.pointer (some ⟨P.bb, 0, none⟩), .agg #[.int .i64 z.wd, .int .i64 z.ht]] w fun e w' => e = .returned (.bool (s.m.add z).2) ∧ (Kat S w' P q its { s with m := (s.m.add z).1 } ∧ Grew P q q w w') ∧ But (fun j => j = P.bb) w w' := by
  refine (ladd_any hO w q.F P.p P.bb s.m z h.sp h.bl (fun e => absurd (h.ap 0 1 P.bb e rfl) (by decide)) hf hz).mono ?_
  rintro e w' ⟨rfl, h1, h2⟩
  obtain ⟨a1, a2, a3, a4⟩ := add_same s.m z
  exact ⟨rfl, h.maker hO h1 h2 a1 a2 a3, h2⟩

set_option maxRecDepth 100000 in
set_option maxHeartbeats 2000000 in
theorem katom_any (hO : SpaceOk S) (hP : PlaceOk S) {w : World} {P : Fast} {q : Loose} {its : List It} {s : Ly} {Z : Int} {k : Nat} (h : Kat S w P q its s) (hA : Able its Z k s) (hk : k < its.length) (h0 : (itAt its k).sd = 0) :
    Calls Tryz.prog 30 #[.pointer (some ⟨P.kb, 0, none⟩), .int .i64 (k : Int)] w fun e w' => (∃ v, e = .returned v) ∧ ∃ q', Kat S w' P q' its (s.atom its k) ∧ Grew P q q' w w' := by
  have hki : (k : Int) < (its.length : Int) := by omega
  have hk0 : ¬ (k : Int) < 0 := by omega
  have hzr := (itAt_right hA.hr hk).size h0
  obtain ⟨z, hzz⟩ : ∃ z : Sz, (itAt its k).z = z := ⟨_, rfl⟩
  rw [hzz] at hzr
  have HZ := Lib.hid (⟨hzr, hzz⟩ : RightS z ∧ (itAt its k).z = z)
  obtain ⟨u, hu⟩ : ∃ u, s.atom its k = u := ⟨_, rfl⟩
  have HU := Lib.hid hu
  rw [hu]
  clear hu
  have HA := Lib.hid hA
  have HK := Lib.hid h
  obtain ⟨g0, e0, d0, d1, d2, d3⟩ := h.item hk
  obtain ⟨c0, c1, c2, c3, c4, -⟩ := h.cells
  rw [e0] at c4
  have d2' : w.cell? ⟨g0, k * 4 + 2, none⟩ = some (.int .i64 z.wd) := by rw [← hzz]; exact d2
  have d3' : w.cell? ⟨g0, k * 4 + 3, none⟩ = some (.int .i64 z.ht) := by rw [← hzz]; exact d3
  clear h hA hk h0 hzr hzz e0 d0 d1 d2 d3 c0 c1 c2 c3
  go_enter Tryz.func30, Tryz.ntmps30
  go_upto_region 1 with fail
  generalize hW1 : World.alloc w _ = V
  obtain ⟨b4, hb4⟩ : ∃ b4, w.heap.size = b4 := ⟨_, rfl⟩
  have k1 : Below w.heap.size w V := by rw [← hW1]; exact ba1 _ _
  have z4 : RowAt V b4 (Line.two z.wd z.ht) := by rw [← hW1, ← hb4]; exact RowAt.new w _ _
  have hno : ∀ i j, part P q i j → ¬ j = b4 := fun i j e x => by have := HK.out.low hO i j e; omega
  rw [hb4]
  have S1 := Lib.hid (⟨HK.out.below hO k1, Grew.of_below k1, z4, hno⟩ : Kat S V P q its s ∧ Grew P q q w V ∧ RowAt V b4 (Line.two z.wd z.ht) ∧ ∀ i j, part P q i j → ¬ j = b4)
  clear hW1 hb4 k1 z4 hno HK c4 d2' d3'
  have HC := Lib.hid (fun w' (i : Below V.heap.size V w') => show w'.cell? ⟨P.kb, 0, none⟩ = some (.pointer (some ⟨P.bb, 0, none⟩)) from (S1.out.1.below hO i).kr.at' 0)
  have HB4 := Lib.hid (fun w' (i : Below V.heap.size V w') => S1.out.2.2.1.below (by simp) i)
  refine Hold.wp_region_hold [.val (.pointer (some ⟨P.kb, 0, none⟩)), .val (.pointer (some ⟨P.kb, 0, none⟩)), .val (.pointer (some ⟨P.kb, 0, none⟩)), .val (.pointer (some ⟨P.bb, 0, none⟩)), .val (.agg #[.int .i64 z.wd, .int .i64 z.ht])] (by kernel_rfl) (by kernel_rfl) (by kernel_rfl) ?_ ?_
  · simp only [Hold.fill, Hold.Leave.value]
    refine ⟨?_, ?_, ?_, ?_, ?_, trivial⟩
    · intro gg w' hw hk
      go_simp
      exact ⟨rfl, rfl⟩
    · intro gg w' hw hk
      go_simp
      exact ⟨rfl, rfl⟩
    · intro gg w' hw hk
      go_simp
      exact ⟨rfl, rfl⟩
    · intro gg w' hw hk
      have q0 : w'.cell? ⟨P.kb, 0, none⟩ = some (.pointer (some ⟨P.bb, 0, none⟩)) := HC.out w' hw
      go_simp
      exact ⟨rfl, rfl⟩
    · intro gg w' hw hk
      have q0 : w'.cell? ⟨b4, 0, none⟩ = some (.int .i64 z.wd) := (HB4.out w' hw).at' 0
      have q1 : w'.cell? ⟨b4, 1, none⟩ = some (.int .i64 z.ht) := (HB4.out w' hw).at' 1
      go_simp
      exact ⟨rfl, rfl⟩
  intro gg w2 k2 hgg
  clear hgg
  simp only [Hold.fill, Hold.Leave.value, List.length_cons, List.length_nil, List.drop_succ_cons, List.drop_zero]
  have S2 := Lib.hid (⟨S1.out.1.below hO k2, S1.out.2.1.trans (Grew.of_below k2), S1.out.2.2.1.below (by simp) k2⟩ : Kat S w2 P q its s ∧ Grew P q q w w2 ∧ RowAt w2 b4 (Line.two z.wd z.ht))
  clear k2 HC HB4
  have HAd := Lib.hid (S2.out.1.added hO HA.out.fine HZ.out.1)
  cases hv : (s.m.add z).2 with
  | true =>
    rw [hv] at HAd
    have hat : s.atom its k = { s with m := (s.m.add z).1, row := s.row ++ [k] } := by unfold Ly.atom; rw [HZ.out.2, hv]; rfl
    rw [HU.out] at hat
    have HAT := Lib.hid hat
    clear hv hat
    go_simp
    go_upto_region 4 with (first
      | (go_at_call 44; refine HAd.out.mono ?_; rintro e w3 ⟨rfl, h3, k3⟩; have S3 := Lib.hid (⟨h3.1, S2.out.2.1.trans h3.2⟩ : Kat S w3 P q its { s with m := (s.m.add z).1 } ∧ Grew P q q w w3); clear h3 k3))
    have HRl := Lib.hid (show s.row.length ≤ 1000 by have := HA.out.row; have := HA.out.hi; omega)
    clear HAd
    obtain ⟨-, -, -, -, -, c5, -⟩ := S3.out.1.cells
    go_wp2_with (first
      | (at_builtin; refine wpList_append_E (bytes := 8) (by omega) infoN _ rfl (.tmp 32) (.tmp 34) rfl P.B q.A1 s.row.length q.c1 s.row rfl (S3.out.1.ro.alloc _) (some ⟨w3.heap.size, 0, none⟩) 1 1 [k] rfl (oneN_src w3 k) (by have := HRl.out; omega) (by have := S3.out.1.hB; simp; omega) ?_; intro A7 c7' w7 hA7; have r7 := ((S3.out.1.kr.below (by simp) (ba1 w3 (.cells #[.int .i64 (k : Int)] 3))).kept (hA7.2.1.block P.kb (by have := S3.out.1.klt; simp; omega) (fun e => absurd (S3.out.1.ap 4 2 P.kb e.symm rfl) (by decide)))); have d0 : w7.cell? ⟨P.kb, 5, none⟩ = some (.slice q.A1 s.row.length q.c1) := r7.at' 5; have d1 := r7.frz 5; have H7 := Lib.hid hA7; clear hA7 r7))
    go_end0
    obtain ⟨e1, e2⟩ := (S3.out.1.below hO (ba1 w3 (.cells #[.int .i64 (k : Int)] 3))).onrow hO k H7.out
    exact ⟨⟨_, rfl⟩, _, by rw [HAT.out]; exact e1, (S3.out.2.trans (Grew.of_below (ba1 w3 _))).trans e2⟩
  | false =>
    rw [hv] at HAd
    have hne : s.m.az ≠ [] := fun e => by rw [add_empty e] at hv; cases hv
    have hadd : ({ s with m := (s.m.add z).1 } : Ly) = s := by
      have : (s.m.add z).1 = s.m := by
        unfold Mk.add at hv ⊢
        split
        · rename_i e; exact absurd e hne
        · rename_i e
          rw [e] at hv
          dsimp only at hv
          split at hv
          · cases hv
          · rename_i y; rw [if_neg y]
      rw [this]
    rw [hadd] at HAd
    have hat : s.atom its k = { s.fin its with m := ((s.fin its).m.add z).1, row := [k] } := by unfold Ly.atom; rw [HZ.out.2, hv]; rfl
    rw [HU.out] at hat
    have HAT := Lib.hid hat
    have HNe := Lib.hid hne
    clear hv hat hne hadd
    go_simp
    go_upto_region 3 with (first
      | (go_at_call 44; refine HAd.out.mono ?_; rintro e w3 ⟨rfl, h3, k3⟩; have S3 := Lib.hid (⟨h3.1, S2.out.2.1.trans h3.2, S2.out.2.2.but (by simp) k3 (fun e => S1.out.2.2.2 1 P.bb rfl e.symm)⟩ : Kat S w3 P q its s ∧ Grew P q q w w3 ∧ RowAt w3 b4 (Line.two z.wd z.ht)); clear h3 k3)
      | (go_at_call 18; refine (kend_some hO hP S3.out.1 HA.out HNe.out).mono ?_; rintro e w4 ⟨⟨v4, rfl⟩, q4, h4, g4⟩; have S4 := Lib.hid (⟨h4, S3.out.2.1.trans g4, S3.out.2.2.but (by simp) g4.but (fun ⟨i, _, e⟩ => S1.out.2.2.2 i b4 e rfl)⟩ : Kat S w4 P q4 its (s.fin its) ∧ Grew P q q4 w w4 ∧ RowAt w4 b4 (Line.two z.wd z.ht)); clear h4 g4))
    have hfk := fin_keep HA.out.hr HA.out.kp HA.out.hk (by have := HA.out.hz; have := HA.out.hk; omega)
    have hff : Fine (s.fin its).m := lo_fine hfk.1 (by have := HA.out.hz; have := HA.out.hk; omega) (by rw [hfk.2.1]; exact Nat.zero_le _)
    have HFF := Lib.hid (⟨hff, add_empty (z := z) hfk.2.1⟩ : Fine (s.fin its).m ∧ ((s.fin its).m.add z).2 = true)
    have HR0 := Lib.hid (show (s.fin its).row = [] from rfl)
    clear hfk hff HAd S2
    obtain ⟨t, ht⟩ : ∃ t, s.fin its = t := ⟨_, rfl⟩
    have HT := Lib.hid ht
    rw [ht] at S4 HFF HR0
    clear ht
    have HC := Lib.hid (fun w' (i : Below w4.heap.size w4 w') => show w'.cell? ⟨P.kb, 0, none⟩ = some (.pointer (some ⟨P.bb, 0, none⟩)) from (S4.out.1.below hO i).kr.at' 0)
    have HB4 := Lib.hid (fun w' (i : Below w4.heap.size w4 w') => S4.out.2.2.below (by simp) i)
    refine Hold.wp_region_hold [.val (.pointer (some ⟨P.kb, 0, none⟩)), .val (.pointer (some ⟨P.kb, 0, none⟩)), .val (.pointer (some ⟨P.kb, 0, none⟩)), .val (.pointer (some ⟨P.bb, 0, none⟩)), .val (.agg #[.int .i64 z.wd, .int .i64 z.ht])] (by kernel_rfl) (by kernel_rfl) (by kernel_rfl) ?_ ?_
    · simp only [Hold.fill, Hold.Leave.value]
      refine ⟨?_, ?_, ?_, ?_, ?_, trivial⟩
      · intro gg w' hw hk
        go_simp
        exact ⟨rfl, rfl⟩
      · intro gg w' hw hk
        go_simp
        exact ⟨rfl, rfl⟩
      · intro gg w' hw hk
        go_simp
        exact ⟨rfl, rfl⟩
      · intro gg w' hw hk
        have q0 : w'.cell? ⟨P.kb, 0, none⟩ = some (.pointer (some ⟨P.bb, 0, none⟩)) := HC.out w' hw
        go_simp
        exact ⟨rfl, rfl⟩
      · intro gg w' hw hk
        have q0 : w'.cell? ⟨b4, 0, none⟩ = some (.int .i64 z.wd) := (HB4.out w' hw).at' 0
        have q1 : w'.cell? ⟨b4, 1, none⟩ = some (.int .i64 z.ht) := (HB4.out w' hw).at' 1
        go_simp
        exact ⟨rfl, rfl⟩
    intro gg w5 k5 hgg
    clear hgg
    simp only [Hold.fill, Hold.Leave.value, List.length_cons, List.length_nil, List.drop_succ_cons, List.drop_zero]
    have S5 := Lib.hid (⟨S4.out.1.below hO k5, S4.out.2.1.trans (Grew.of_below k5)⟩ : Kat S w5 P q4 its t ∧ Grew P q q4 w w5)
    clear k5 HC HB4
    have HAd := Lib.hid (S5.out.1.added hO HFF.out.1 HZ.out.1)
    go_simp
    go_upto_region 4 with (first
      | (go_at_call 44; refine HAd.out.mono ?_; rintro e w6 ⟨rfl, h6, k6⟩; have S6 := Lib.hid (⟨h6.1, S5.out.2.trans h6.2⟩ : Kat S w6 P q4 its { t with m := (t.m.add z).1 } ∧ Grew P q q4 w w6); clear h6 k6))
    have HRl := Lib.hid (show t.row.length = 0 by rw [HR0.out]; rfl)
    clear HAd
    obtain ⟨-, -, -, -, -, c5, -⟩ := S6.out.1.cells
    go_wp2_with (first
      | (at_builtin; refine wpList_append_E (bytes := 8) (by omega) infoN _ rfl (.tmp 32) (.tmp 34) rfl P.B q4.A1 t.row.length q4.c1 t.row rfl (S6.out.1.ro.alloc _) (some ⟨w6.heap.size, 0, none⟩) 1 1 [k] rfl (oneN_src w6 k) (by have := HRl.out; omega) (by have := S6.out.1.hB; simp; omega) ?_; intro A7 c7' w7 hA7; have r7 := ((S6.out.1.kr.below (by simp) (ba1 w6 (.cells #[.int .i64 (k : Int)] 3))).kept (hA7.2.1.block P.kb (by have := S6.out.1.klt; simp; omega) (fun e => absurd (S6.out.1.ap 4 2 P.kb e.symm rfl) (by decide)))); have d0 : w7.cell? ⟨P.kb, 5, none⟩ = some (.slice q4.A1 t.row.length q4.c1) := r7.at' 5; have d1 := r7.frz 5; have H7 := Lib.hid hA7; clear hA7 r7))
    go_end0
    obtain ⟨e1, e2⟩ := (S6.out.1.below hO (ba1 w6 (.cells #[.int .i64 (k : Int)] 3))).onrow hO k H7.out
    refine ⟨⟨_, rfl⟩, _, ?_, (S6.out.2.trans (Grew.of_below (ba1 w6 _))).trans e2⟩
    rw [HAT.out, HT.out]
    have e3 : ({ t with m := (t.m.add z).1, row := t.row ++ [k] } : Ly) = { t with m := (t.m.add z).1, row := [k] } := by rw [HR0.out]; rfl
    rw [← e3]
    exact e1

end

end Go.Proofs.YtdibdfalahjmbaaGreat.Text
