
import Derived.Test.YtdibdfalahjmbaaGreatPart45
namespace Go.Proofs.YtdibdfalahjmbaaGreat.Text

open Go.RowKit Go.Sort Go.Proofs.YtdibdfalahjmbaaGreat.Rect Go.Proofs.YtdibdfalahjmbaaGreat.More Go.Proofs.YtdibdfalahjmbaaGreat.Shelf Go.Proofs.YtdibdfalahjmbaaGreat.Space Go.Proofs.YtdibdfalahjmbaaGreat.Place Go.Proofs.YtdibdfalahjmbaaGreat.Line

set_option linter.unusedVariables false

set_option linter.unusedSimpArgs false

set_option maxRecDepth 100000 in
set_option maxHeartbeats 800000 in
theorem b_waits1 {w0 : World} {f t : Int} {AI : Option Addr} {ni ci : Nat} {P : RFast} {q : RLoose} {s : Ly} {its : List It} {a : Act} {w : World} {k : Nat} (h : AtS w0 f t AI ni ci P q s k a w) (E : Env w0 AI ni P its) (hA : Able its 140737488355328 k s) (hf : s.m.f = f) (ht : s.m.t = t) (hk : k < its.length) (hsd : (itAt its k).sd ≠ 0) (hm : s.m.az ≠ []) (hw : s.wait ≠ []) :
    Code.wp Tryz.prog cB (Goes (.exit 1) fun a' w' => ∃ q', AtS w0 f t AI ni ci P q' (s.waits k) k a' w') a w := by
  have HWl := Lib.hid (show s.wait.length ≤ 1000 by have := hA.fs; omega)
  clear hA hf ht
  refine wp_goes fun Q hQ => ?_
  have HQ := Lib.hid hQ
  clear hQ
  have HD := Lib.hid (⟨h.d, h.b⟩ : Dat w P q s ∧ Below w0.heap.size w0 w)
  refine h.fr.open (C := fun a => Code.wp Tryz.prog cB Q a w) ?_
  clear h
  intros
  conv => arg 2; whnf
  obtain ⟨x, hx⟩ : ∃ x, itAt its k = x := ⟨_, rfl⟩
  obtain ⟨ad, rfl, hadb, d0, d1, d2, d3⟩ := E.item hk HD.out.2
  rw [hx] at d0 d1 d2 d3
  have HAd := Lib.hid (⟨hadb, d0, d1, d2, d3⟩ : ad.block < w.heap.size ∧ AtI w (ad.add (k * 4)) x)
  have HK := Lib.hid (⟨hk, hx, E.right hk hx, E.n30, E.hn⟩ : k < its.length ∧ itAt its k = x ∧ RightI x ∧ its.length ≤ 30 ∧ ni = its.length)
  have HE := Lib.hid E
  have hki : (k : Int) < (ni : Int) := by have := E.hn; omega
  have hk0 : ¬ (k : Int) < 0 := by omega
  have hwk : IntKind.i64.wrap ((k : Int) + 1) = (k : Int) + 1 := IntWalk.i64_in _ (by have := E.hn; have := E.n30; omega)
  clear hadb hk hx E
  have hsd' : ¬ x.sd = 0 := HK.out.2.1 ▸ hsd
  have hb0 : (x.sd == 0) = false := by simp [hsd']
  have hb1 : (x.sd != 0) = true := by simp [hsd']
  have HSd := Lib.hid hsd'
  clear hsd hsd'
  have hz0 : ¬ (q.nZ : Int) = 0 := by have := List.length_pos_iff.2 hm; have := HD.out.1.hn2; omega
  have hw0 : ¬ (s.wait.length : Int) = 0 := by have := List.length_pos_iff.2 hw; omega
  clear hm hw
  have c5 : w.cell? ⟨P.m, 5, none⟩ = some (.slice q.AZ q.nZ q.cZ) := HD.out.1.m.at' 5
  go_upto_region 23 with fail
  clear d0 d1 d2 d3 c5 hz0 hw0
  have HU := Lib.hid HD.out
  obtain ⟨U, hU⟩ : ∃ U, w = U := ⟨_, rfl⟩
  rw [hU] at HU ⊢
  clear hU
  go_wp2_with (first
    | (at_builtin; refine wpList_append_E (bytes := 8) (by omega) infoN _ rfl (.tmp 154) (.tmp 156) rfl P.B q.A2 s.wait.length q.c2 s.wait rfl (HU.out.1.wa.alloc _) (some ⟨U.heap.size, 0, none⟩) 1 1 [k] rfl (oneE_src encN U k 3) (by have := HWl.out; omega) (by have := HU.out.1.hB; simp; omega) ?_; intro A7 c7 w7 hA7; have HR7 := Lib.hid ((HU.out.1.below (ba1 U _)).onwait k hA7); have HN7 := Lib.hid (Eq.refl A7); clear hA7))
  refine HQ.out _ _ ?_
  rw [show s.waits k = { s with wait := s.wait ++ [k] } from rfl]
  exact ⟨{ q with A2 := A7, c2 := c7 }, ⟨⟨rfl, rfl, rfl, rfl, rfl, rfl, rfl, rfl, rfl, (by show some (Value.slice A7 (s.wait.length + 1) c7) = some (Value.slice A7 (s.wait ++ [k]).length c7); rw [List.length_append]; rfl), rfl⟩, HR7.out.1, (HU.out.2.trans ((ba1 U _).mono HU.out.2.size)).trans (by have := HR7.out.2; rw [HE.out.hB] at this; exact this)⟩⟩

set_option maxRecDepth 100000 in
set_option maxHeartbeats 800000 in
theorem b_waits2 {w0 : World} {f t : Int} {AI : Option Addr} {ni ci : Nat} {P : RFast} {q : RLoose} {s : Ly} {its : List It} {a : Act} {w : World} {k : Nat} (h : AtS w0 f t AI ni ci P q s k a w) (E : Env w0 AI ni P its) (hA : Able its 140737488355328 k s) (hf : s.m.f = f) (ht : s.m.t = t) (hk : k < its.length) (hsd : (itAt its k).sd ≠ 0) (hm : s.m.az ≠ []) (hw : s.wait = []) (hb : (s.m.beside (wantAt its s.m k s.m.top)).2 = none) :
    Code.wp Tryz.prog cB (Goes (.exit 1) fun a' w' => ∃ q', AtS w0 f t AI ni ci P q' (s.waits k) k a' w') a w := by
  have hX : wantAt its s.m k s.m.top = (itAt its k).want f t s.m.top := by unfold wantAt; rw [hf, ht]
  have hlo := hA.low
  have hz1 := hA.hz
  have hp1 := hlo.p1 hm
  have hp2 := hlo.p2 hm
  have hx0 := itAt_right hA.hr hk
  have hX1 : RightW (wantAt its s.m k s.m.top) := hx0.want hsd hlo.f1 hlo.f2 hlo.t1 hlo.t2 hlo.ft (by have := hlo.y1; omega) (by have := E.n30; omega)
  have h49 : s.m.fs.all near49 = true := nearZ_49 hlo.fl (by have := E.n30; omega)
  have hn49 : (s.m.fs ++ [placed s.m.fs (wantAt its s.m k s.m.top)]).all near49 = true := nearZ_49 (lo_put (y := s.m.top) hlo (by have := E.n30; omega) hx0 hsd (by have := hlo.y1; omega) (by omega)).fl (by have := E.n30; omega)
  have hba : -4503599627370496 ≤ s.m.f ∧ s.m.f ≤ 4503599627370496 := by have := hlo.f1; have := hlo.f2; omega
  have hbb : -4503599627370496 ≤ s.m.t ∧ s.m.t ≤ 4503599627370496 := by have := hlo.t1; have := hlo.t2; omega
  have hzl : s.m.az.length ≤ 1000 := by have := hA.azl; have := hA.row; have := E.n30; omega
  have hfl := hA.fs
  have hza := hlo.ha
  have HFl := Lib.hid (fun w1 (d : Dat w1 P q s) => show Calls Tryz.prog 23 #[Mv q.AF q.nF q.cF q.AZ q.nZ q.cZ s.m, (wantAt its s.m k s.m.top).v] w1 (fun e w'' => e = .returned (.tuple #[Mv q.AF q.nF q.cF q.AZ q.nZ q.cZ s.m, Fl.box zeroF, .bool false]) ∧ Below w1.heap.size w1 w'') from by
    refine (reffloat_any q.AF q.nF q.cF q.AZ q.nZ q.cZ s.m (wantAt its s.m k s.m.top) w1 (d.mkin (by omega) hzl hza) d.fn hm h49 hX1 hn49 (by have := d.hn; omega) hba hbb).mono ?_
    rintro e w'' ⟨h, k⟩
    unfold FloatOut at h
    rw [hb] at h
    exact ⟨h, k⟩)
  have HWl := Lib.hid (show s.wait.length ≤ 1000 by have := hA.fs; omega)
  rw [hX] at HFl
  clear hX hlo hz1 hp1 hp2 hx0 hX1 h49 hn49 hba hbb hzl hfl hza hb hf ht
  refine wp_goes fun Q hQ => ?_
  have HQ := Lib.hid hQ
  clear hQ
  have HD := Lib.hid (⟨h.d, h.b⟩ : Dat w P q s ∧ Below w0.heap.size w0 w)
  refine h.fr.open (C := fun a => Code.wp Tryz.prog cB Q a w) ?_
  clear h
  intros
  conv => arg 2; whnf
  obtain ⟨x, hx⟩ : ∃ x, itAt its k = x := ⟨_, rfl⟩
  obtain ⟨ad, rfl, hadb, d0, d1, d2, d3⟩ := E.item hk HD.out.2
  rw [hx] at d0 d1 d2 d3
  have HAd := Lib.hid (⟨hadb, d0, d1, d2, d3⟩ : ad.block < w.heap.size ∧ AtI w (ad.add (k * 4)) x)
  have HK := Lib.hid (⟨hk, hx, E.right hk hx, E.n30, E.hn⟩ : k < its.length ∧ itAt its k = x ∧ RightI x ∧ its.length ≤ 30 ∧ ni = its.length)
  have HE := Lib.hid E
  have hki : (k : Int) < (ni : Int) := by have := E.hn; omega
  have hk0 : ¬ (k : Int) < 0 := by omega
  have hwk : IntKind.i64.wrap ((k : Int) + 1) = (k : Int) + 1 := IntWalk.i64_in _ (by have := E.hn; have := E.n30; omega)
  rw [hx] at HFl
  clear hadb hk hx E
  have hsd' : ¬ x.sd = 0 := HK.out.2.1 ▸ hsd
  have hb0 : (x.sd == 0) = false := by simp [hsd']
  have hb1 : (x.sd != 0) = true := by simp [hsd']
  have HSd := Lib.hid hsd'
  clear hsd hsd'
  have hz0 : ¬ (q.nZ : Int) = 0 := by have := List.length_pos_iff.2 hm; have := HD.out.1.hn2; omega
  have hw0 : (s.wait.length : Int) = 0 := by rw [hw]; rfl
  clear hm hA hw
  have c5 : w.cell? ⟨P.m, 5, none⟩ = some (.slice q.AZ q.nZ q.cZ) := HD.out.1.m.at' 5
  go_upto_region 19 with fail
  clear d0 d1 d2 d3 c5 hz0 hw0
  have HC := Lib.hid (fun w' (i : Below w.heap.size w w') => show Dat w' P q s ∧ AtI w' (ad.add (k * 4)) x from ⟨HD.out.1.below i, HAd.out.2.below (by rw [block_of_add]; exact HAd.out.1) i⟩)
  refine HoldLate.wp_region_hold_late [13, 14] [.val (.agg #[.slice q.AF q.nF q.cF, .int .i64 s.m.f, .int .i64 s.m.t, .int .i64 s.m.y, .int .i64 s.m.top, .slice q.AZ q.nZ q.cZ]), .val (.slice (some ad) ni ci), .val (.int .i64 (k : Int)), .val (.pointer (some (ad.add (k * 4)))), .val (.agg #[.int .i64 x.sd, .int .i64 x.cl, .int .i64 x.wd, .int .i64 x.ht]), .val (.int .i64 f), .val (.int .i64 t), .val (.pointer (some ⟨P.m, 4, none⟩)), .val (.int .i64 s.m.top), .val (.agg #[.int .i64 x.sd, .int .i64 x.cl, .int .i64 f, .int .i64 t, .int .i64 x.wd, .int .i64 x.ht, .int .i64 s.m.top]), .val (.tuple #[.agg #[.slice q.AF q.nF q.cF, .int .i64 s.m.f, .int .i64 s.m.t, .int .i64 s.m.y, .int .i64 s.m.top, .slice q.AZ q.nZ q.cZ], .agg #[.int .i64 0, .int .i64 0, .int .i64 0, .int .i64 0], .bool false]), .val (.tuple #[.agg #[.slice q.AF q.nF q.cF, .int .i64 s.m.f, .int .i64 s.m.t, .int .i64 s.m.y, .int .i64 s.m.top, .slice q.AZ q.nZ q.cZ], .agg #[.int .i64 0, .int .i64 0, .int .i64 0, .int .i64 0], .bool false]), .val (.agg #[.slice q.AF q.nF q.cF, .int .i64 s.m.f, .int .i64 s.m.t, .int .i64 s.m.y, .int .i64 s.m.top, .slice q.AZ q.nZ q.cZ]), .val (.agg #[.int .i64 0, .int .i64 0, .int .i64 0, .int .i64 0]), .val (.bool false), .some (FreshR w [.slice none 0 0, .int .i64 0, .int .i64 0, .int .i64 0, .int .i64 0, .slice none 0 0] 79), .some (FreshR w [.int .i64 0, .int .i64 0, .int .i64 0, .int .i64 0] 44)] (by kernel_rfl) (by kernel_rfl) (by kernel_rfl) ?_ ?_ ?_
  · simp only [Hold.fill, Hold.Leave.value]
    refine ⟨?_, ?_, ?_, ?_, ?_, ?_, ?_, ?_, ?_, ?_, ?_, ?_, ?_, ?_, ?_, ?_, ?_, trivial⟩
    · intro gg w' hw hk
      have q0 : w'.cell? ⟨P.m, 0, none⟩ = some (.slice q.AF q.nF q.cF) := ((HC.out w' hw).1.m).at' 0
      have q1 : w'.cell? ⟨P.m, 1, none⟩ = some (.int .i64 s.m.f) := ((HC.out w' hw).1.m).at' 1
      have q2 : w'.cell? ⟨P.m, 2, none⟩ = some (.int .i64 s.m.t) := ((HC.out w' hw).1.m).at' 2
      have q3 : w'.cell? ⟨P.m, 3, none⟩ = some (.int .i64 s.m.y) := ((HC.out w' hw).1.m).at' 3
      have q4 : w'.cell? ⟨P.m, 4, none⟩ = some (.int .i64 s.m.top) := ((HC.out w' hw).1.m).at' 4
      have q5 : w'.cell? ⟨P.m, 5, none⟩ = some (.slice q.AZ q.nZ q.cZ) := ((HC.out w' hw).1.m).at' 5
      go_simp
      exact ⟨rfl, rfl⟩
    · intro gg w' hw hk
      go_simp
      exact ⟨rfl, rfl⟩
    · intro gg w' hw hk
      go_simp
      exact ⟨rfl, rfl⟩
    · intro gg w' hw hk
      go_simp
      exact ⟨rfl, rfl⟩
    · intro gg w' hw hk
      have q0 : w'.cell? (ad.add (k * 4)) = some (.int .i64 x.sd) := (HC.out w' hw).2.1
      have q1 : w'.cell? ⟨(ad.add (k * 4)).block, (ad.add (k * 4)).off + 1, none⟩ = some (.int .i64 x.cl) := (HC.out w' hw).2.2.1
      have q2 : w'.cell? ⟨(ad.add (k * 4)).block, (ad.add (k * 4)).off + 2, none⟩ = some (.int .i64 x.wd) := (HC.out w' hw).2.2.2.1
      have q3 : w'.cell? ⟨(ad.add (k * 4)).block, (ad.add (k * 4)).off + 3, none⟩ = some (.int .i64 x.ht) := (HC.out w' hw).2.2.2.2
      go_simp
      exact ⟨rfl, rfl⟩
    · intro gg w' hw hk
      go_simp
      exact ⟨rfl, rfl⟩
    · intro gg w' hw hk
      go_simp
      exact ⟨rfl, rfl⟩
    · intro gg w' hw hk
      go_simp
      exact ⟨rfl, rfl⟩
    · intro gg w' hw hk
      have q0 : w'.cell? ⟨P.m, 4, none⟩ = some (.int .i64 s.m.top) := ((HC.out w' hw).1.m).at' 4
      go_simp
      exact ⟨rfl, rfl⟩
    · intro gg w' hw hk
      go_simp
      exact Hold.stays_call (rwant_any x f t s.m.top w')
    · intro gg w' hw hk
      go_simp
      exact Hold.stays_call (HFl.out w' (HC.out w' hw).1)
    · intro gg w' hw hk
      go_simp
      exact ⟨rfl, rfl⟩
    · intro gg w' hw hk
      go_simp
      exact ⟨rfl, rfl⟩
    · intro gg w' hw hk
      go_simp
      exact ⟨rfl, rfl⟩
    · intro gg w' hw hk
      go_simp
      exact ⟨rfl, rfl⟩
    · refine ⟨freshR_keeps _ _ _ (by simp), fun gg w' hw hk => ?_⟩
      have hsz := hw.size
      go_simp
      exact ⟨ba1 _ _, freshR_new w w' [.slice none 0 0, .int .i64 0, .int .i64 0, .int .i64 0, .int .i64 0, .slice none 0 0] 79 hsz⟩
    · refine ⟨freshR_keeps _ _ _ (by simp), fun gg w' hw hk => ?_⟩
      have hsz := hw.size
      go_simp
      exact ⟨ba1 _ _, freshR_new w w' [.int .i64 0, .int .i64 0, .int .i64 0, .int .i64 0] 44 hsz⟩
  · simp only [Hold.fill, Hold.Leave.value]
    intro i hi o v ho hv gg w' hw hk w1
    simp only [List.mem_cons, List.not_mem_nil, or_false] at hi
    rcases hi with rfl | rfl
    · obtain rfl := Option.some.inj (show some _ = some o from ho)
      have hv2 : Value.agg #[Value.int IntKind.i64 0, Value.int IntKind.i64 0, Value.int IntKind.i64 0, Value.int IntKind.i64 0] = v := Hold.Leave.val.inj (Option.some.inj (show some (Hold.Leave.val (Value.agg #[Value.int IntKind.i64 0, Value.int IntKind.i64 0, Value.int IntKind.i64 0, Value.int IntKind.i64 0])) = some (Hold.Leave.val v) from hv))
      subst hv2
      clear hk
      go_simp
    · obtain rfl := Option.some.inj (show some _ = some o from ho)
      have hv2 : Value.bool false = v := Hold.Leave.val.inj (Option.some.inj (show some (Hold.Leave.val (Value.bool false)) = some (Hold.Leave.val v) from hv))
      subst hv2
      clear hk
      go_simp
  intro Q9 hQ9 gg w4 k4 hgg
  simp only [Hold.fill, Hold.Leave.value, List.length_cons, List.length_nil, List.drop_succ_cons, List.drop_zero]
  have h15 := hgg 15 _ rfl
  have h16 := hgg 16 _ rfl
  obtain ⟨b15, e15, z15, g15, t15⟩ := h15
  obtain ⟨b16, e16, z16, g16, t16⟩ := h16
  rw [e15, e16]
  clear hgg e15 e16
  have hne : b16 ≠ b15 := types_ne t16 t15 (by decide)
  have hne2 : b15 ≠ b16 := fun e => hne e.symm
  have q0 : w4.cell? ⟨b15, 0, none⟩ = some (.slice none 0 0) := z15.at' 0
  have f0 : w4.frozen? ⟨b15, 0, none⟩ = false := z15.frz 0
  have q1 : w4.cell? ⟨b15, 1, none⟩ = some (.int .i64 0) := z15.at' 1
  have f1 : w4.frozen? ⟨b15, 1, none⟩ = false := z15.frz 1
  have q2 : w4.cell? ⟨b15, 2, none⟩ = some (.int .i64 0) := z15.at' 2
  have f2 : w4.frozen? ⟨b15, 2, none⟩ = false := z15.frz 2
  have q3 : w4.cell? ⟨b15, 3, none⟩ = some (.int .i64 0) := z15.at' 3
  have f3 : w4.frozen? ⟨b15, 3, none⟩ = false := z15.frz 3
  have q4 : w4.cell? ⟨b15, 4, none⟩ = some (.int .i64 0) := z15.at' 4
  have f4 : w4.frozen? ⟨b15, 4, none⟩ = false := z15.frz 4
  have q5 : w4.cell? ⟨b15, 5, none⟩ = some (.slice none 0 0) := z15.at' 5
  have f5 : w4.frozen? ⟨b15, 5, none⟩ = false := z15.frz 5
  have p0 : w4.cell? ⟨b16, 0, none⟩ = some (.int .i64 0) := z16.at' 0
  have g0 : w4.frozen? ⟨b16, 0, none⟩ = false := z16.frz 0
  have p1 : w4.cell? ⟨b16, 1, none⟩ = some (.int .i64 0) := z16.at' 1
  have g1 : w4.frozen? ⟨b16, 1, none⟩ = false := z16.frz 1
  have p2 : w4.cell? ⟨b16, 2, none⟩ = some (.int .i64 0) := z16.at' 2
  have g2 : w4.frozen? ⟨b16, 2, none⟩ = false := z16.frz 2
  have p3 : w4.cell? ⟨b16, 3, none⟩ = some (.int .i64 0) := z16.at' 3
  have g3 : w4.frozen? ⟨b16, 3, none⟩ = false := z16.frz 3
  have v15 := row_six z15 (.slice q.AF q.nF q.cF) (.int .i64 s.m.f) (.int .i64 s.m.t) (.int .i64 s.m.y) (.int .i64 s.m.top) (.slice q.AZ q.nZ q.cZ)
  have z16' : RowAt (World.setCell (World.setCell (World.setCell (World.setCell (World.setCell (World.setCell w4 ⟨b15, 0, none⟩ (.slice q.AF q.nF q.cF)) ⟨b15, 1, none⟩ (.int .i64 s.m.f)) ⟨b15, 2, none⟩ (.int .i64 s.m.t)) ⟨b15, 3, none⟩ (.int .i64 s.m.y)) ⟨b15, 4, none⟩ (.int .i64 s.m.top)) ⟨b15, 5, none⟩ (.slice q.AZ q.nZ q.cZ)) b16 [.int .i64 0, .int .i64 0, .int .i64 0, .int .i64 0] := z16.kept (v15.2.block b16 hne)
  have v16 := row_four z16' (.int .i64 0) (.int .i64 0) (.int .i64 0) (.int .i64 0)
  have kV : But (fun j => j = b15 ∨ j = b16) w4 (World.setCell (World.setCell (World.setCell (World.setCell (World.setCell (World.setCell (World.setCell (World.setCell (World.setCell (World.setCell w4 ⟨b15, 0, none⟩ (.slice q.AF q.nF q.cF)) ⟨b15, 1, none⟩ (.int .i64 s.m.f)) ⟨b15, 2, none⟩ (.int .i64 s.m.t)) ⟨b15, 3, none⟩ (.int .i64 s.m.y)) ⟨b15, 4, none⟩ (.int .i64 s.m.top)) ⟨b15, 5, none⟩ (.slice q.AZ q.nZ q.cZ)) ⟨b16, 0, none⟩ (.int .i64 0)) ⟨b16, 1, none⟩ (.int .i64 0)) ⟨b16, 2, none⟩ (.int .i64 0)) ⟨b16, 3, none⟩ (.int .i64 0)) := (but_more (but_only v15.2) (fun _ e => .inl e)).trans (but_only v16.2) (fun _ _ e => .inr e)
  have bV := k4.trans (kV.below k4.size (fun j e => e.elim (fun e => by rw [e]; exact g15) (fun e => by rw [e]; exact g16)))
  have HU := Lib.hid (⟨HD.out.1.below bV, HD.out.2.trans (bV.mono HD.out.2.size)⟩ : Dat (World.setCell (World.setCell (World.setCell (World.setCell (World.setCell (World.setCell (World.setCell (World.setCell (World.setCell (World.setCell w4 ⟨b15, 0, none⟩ (.slice q.AF q.nF q.cF)) ⟨b15, 1, none⟩ (.int .i64 s.m.f)) ⟨b15, 2, none⟩ (.int .i64 s.m.t)) ⟨b15, 3, none⟩ (.int .i64 s.m.y)) ⟨b15, 4, none⟩ (.int .i64 s.m.top)) ⟨b15, 5, none⟩ (.slice q.AZ q.nZ q.cZ)) ⟨b16, 0, none⟩ (.int .i64 0)) ⟨b16, 1, none⟩ (.int .i64 0)) ⟨b16, 2, none⟩ (.int .i64 0)) ⟨b16, 3, none⟩ (.int .i64 0)) P q s ∧ Below w0.heap.size w0 _)
  clear v15 z16' v16 kV bV z15 z16 g15 t15 g16 t16 k4 HC HFl
  have HQ9 := Lib.hid hQ9
  clear hQ9
  go_wp2_with fail
  refine HQ9.out _ _ ?_
  clear HQ9
  go_upto_region 23 with fail
  clear q0 q1 q2 q3 q4 q5 f0 f1 f2 f3 f4 f5 p0 p1 p2 p3 g0 g1 g2 g3 hne hne2
  generalize (World.setCell (World.setCell (World.setCell (World.setCell (World.setCell (World.setCell (World.setCell (World.setCell (World.setCell (World.setCell w4 ⟨b15, 0, none⟩ (.slice q.AF q.nF q.cF)) ⟨b15, 1, none⟩ (.int .i64 s.m.f)) ⟨b15, 2, none⟩ (.int .i64 s.m.t)) ⟨b15, 3, none⟩ (.int .i64 s.m.y)) ⟨b15, 4, none⟩ (.int .i64 s.m.top)) ⟨b15, 5, none⟩ (.slice q.AZ q.nZ q.cZ)) ⟨b16, 0, none⟩ (.int .i64 0)) ⟨b16, 1, none⟩ (.int .i64 0)) ⟨b16, 2, none⟩ (.int .i64 0)) ⟨b16, 3, none⟩ (.int .i64 0)) = U at *
  go_wp2_with (first
    | (at_builtin; refine wpList_append_E (bytes := 8) (by omega) infoN _ rfl (.tmp 154) (.tmp 156) rfl P.B q.A2 s.wait.length q.c2 s.wait rfl (HU.out.1.wa.alloc _) (some ⟨U.heap.size, 0, none⟩) 1 1 [k] rfl (oneE_src encN U k 3) (by have := HWl.out; omega) (by have := HU.out.1.hB; simp; omega) ?_; intro A7 c7 w7 hA7; have HR7 := Lib.hid ((HU.out.1.below (ba1 U _)).onwait k hA7); have HN7 := Lib.hid (Eq.refl A7); clear hA7))
  refine HQ.out _ _ ?_
  rw [show s.waits k = { s with wait := s.wait ++ [k] } from rfl]
  exact ⟨{ q with A2 := A7, c2 := c7 }, ⟨⟨rfl, rfl, rfl, rfl, rfl, rfl, rfl, rfl, rfl, (by show some (Value.slice A7 (s.wait.length + 1) c7) = some (Value.slice A7 (s.wait ++ [k]).length c7); rw [List.length_append]; rfl), rfl⟩, HR7.out.1, (HU.out.2.trans ((ba1 U _).mono HU.out.2.size)).trans (by have := HR7.out.2; rw [HE.out.hB] at this; exact this)⟩⟩

end Go.Proofs.YtdibdfalahjmbaaGreat.Text
