
import Derived.Test.YtdibdfalahjmbaaGreatPart42
namespace Go.Proofs.YtdibdfalahjmbaaGreat.Text

open Go.RowKit Go.Sort Go.Proofs.YtdibdfalahjmbaaGreat.Rect Go.Proofs.YtdibdfalahjmbaaGreat.More Go.Proofs.YtdibdfalahjmbaaGreat.Shelf Go.Proofs.YtdibdfalahjmbaaGreat.Space Go.Proofs.YtdibdfalahjmbaaGreat.Place Go.Proofs.YtdibdfalahjmbaaGreat.Line

set_option linter.unusedVariables false

set_option linter.unusedSimpArgs false

set_option maxRecDepth 100000 in
set_option maxHeartbeats 800000 in
theorem a_off {w0 : World} {f t : Int} {AI : Option Addr} {ni ci : Nat} {P : RFast} {q : RLoose} {s : Ly} {its : List It} {a : Act} {w : World} {k : Nat} (h : AtS w0 f t AI ni ci P q s k a w) (E : Env w0 AI ni P its) (hk : its.length ≤ k ∨ (k < its.length ∧ (itAt its k).sd ≠ 0)) :
    Code.wp Tryz.prog cA (Goes .normal fun a' w' => ∃ q', AtS w0 f t AI ni ci P q' (s) k a' w') a w := by
  refine wp_goes fun Q hQ => ?_
  have HQ := Lib.hid hQ
  clear hQ
  have HD := Lib.hid (⟨h.d, h.b⟩ : Dat w P q s ∧ Below w0.heap.size w0 w)
  refine h.fr.open (C := fun a => Code.wp Tryz.prog cA Q a w) ?_
  clear h
  intros
  conv => arg 2; whnf
  have hk0 := hk; clear hk
  by_cases hk' : k < its.length
  · have hk := hk'
    have hsd : (itAt its k).sd ≠ 0 := hk0.elim (fun g => absurd hk (by omega)) fun g => g.2
    clear hk0 hk'
    obtain ⟨x, hx⟩ : ∃ x, itAt its k = x := ⟨_, rfl⟩
    obtain ⟨ad, rfl, hadb, d0, d1, d2, d3⟩ := E.item hk HD.out.2
    rw [hx] at d0 d1 d2 d3
    have HAd := Lib.hid (⟨hadb, d0, d1, d2, d3⟩ : ad.block < w.heap.size ∧ AtI w (ad.add (k * 4)) x)
    have HK := Lib.hid (⟨hk, hx, E.right hk hx, E.n30, E.hn⟩ : k < its.length ∧ itAt its k = x ∧ RightI x ∧ its.length ≤ 30 ∧ ni = its.length)
    have HE := Lib.hid E
    have hki : (k : Int) < (ni : Int) := by have := E.hn; omega
    have hk0 : ¬ (k : Int) < 0 := by omega
    have hwk : IntKind.i64.wrap ((k : Int) + 1) = (k : Int) + 1 := IntWalk.i64_in _ (by have := E.hn; have := E.n30; omega)
    clear hadb hk hx E
    have hsd' : ¬ x.sd = 0 := HK.out.2.1 ▸ hsd
    have hb0 : (x.sd == 0) = false := by simp [hsd']
    have hb1 : (x.sd != 0) = true := by simp [hsd']
    have HSd := Lib.hid hsd'
    clear hsd hsd'
    go_wp2_with fail
    exact HQ.out _ _ ⟨q, ⟨⟨rfl, rfl, rfl, rfl, rfl, rfl, rfl, rfl, rfl, rfl, rfl⟩, HD.out.1, HD.out.2⟩⟩
  · have hki : ¬ (k : Int) < (ni : Int) := by have := E.hn; omega
    clear E hk0 hk'
    go_wp2_with fail
    exact HQ.out _ _ ⟨q, ⟨⟨rfl, rfl, rfl, rfl, rfl, rfl, rfl, rfl, rfl, rfl, rfl⟩, HD.out.1, HD.out.2⟩⟩

set_option maxRecDepth 100000 in
set_option maxHeartbeats 800000 in
theorem a_fits {w0 : World} {f t : Int} {AI : Option Addr} {ni ci : Nat} {P : RFast} {q : RLoose} {s : Ly} {its : List It} {a : Act} {w : World} {k : Nat} (h : AtS w0 f t AI ni ci P q s k a w) (E : Env w0 AI ni P its) (hA : Able its 140737488355328 k s) (hk : k < its.length) (hsd : (itAt its k).sd = 0) (hv : (s.m.add (itAt its k).z).2 = true) :
    Code.wp Tryz.prog cA (Goes (.exit 1) fun a' w' => ∃ q', AtS w0 f t AI ni ci P q' (s.onto its k) k a' w') a w := by
  have hkk := hk
  have HA := Lib.hid hA
  have HR0 := Lib.hid (h.d.refA hA E.n30)
  refine wp_goes fun Q hQ => ?_
  have HQ := Lib.hid hQ
  clear hQ
  have HD := Lib.hid (⟨h.d, h.b⟩ : Dat w P q s ∧ Below w0.heap.size w0 w)
  refine h.fr.open (C := fun a => Code.wp Tryz.prog cA Q a w) ?_
  clear h
  intros
  conv => arg 2; whnf
  obtain ⟨x, hx⟩ : ∃ x, itAt its k = x := ⟨_, rfl⟩
  obtain ⟨ad, rfl, hadb, d0, d1, d2, d3⟩ := E.item hk HD.out.2
  rw [hx] at d0 d1 d2 d3
  have HAd := Lib.hid (⟨hadb, d0, d1, d2, d3⟩ : ad.block < w.heap.size ∧ AtI w (ad.add (k * 4)) x)
  have HK := Lib.hid (⟨hk, hx, E.right hk hx, E.n30, E.hn⟩ : k < its.length ∧ itAt its k = x ∧ RightI x ∧ its.length ≤ 30 ∧ ni = its.length)
  have HE := Lib.hid E
  have hki : (k : Int) < (ni : Int) := by have := E.hn; omega
  have hk0 : ¬ (k : Int) < 0 := by omega
  have hwk : IntKind.i64.wrap ((k : Int) + 1) = (k : Int) + 1 := IntWalk.i64_in _ (by have := E.hn; have := E.n30; omega)
  clear hadb hk hx E
  have hb0 : (x.sd == 0) = true := by rw [← HK.out.2.1, hsd]; rfl
  have hb1 : (x.sd != 0) = false := by rw [← HK.out.2.1, hsd]; rfl
  have HSd := Lib.hid (HK.out.2.1 ▸ hsd : x.sd = 0)
  clear hsd
  have HV := Lib.hid (show (s.m.add x.z).2 = true by rw [← HK.out.2.1]; exact hv)
  clear hv hA hkk
  go_upto_region 8 with fail
  clear d0 d1 d2 d3
  have HC := Lib.hid (fun w' (i : Below w.heap.size w w') => show Dat w' P q s ∧ AtI w' (ad.add (k * 4)) x from ⟨HD.out.1.below i, HAd.out.2.below (by rw [block_of_add]; exact HAd.out.1) i⟩)
  have HRi := Lib.hid (fun w' (i : Below w.heap.size w w') => HR0.out.thru i)
  have HZ := Lib.hid (HK.out.2.2.1.size HSd.out)
  refine HoldLate.wp_region_hold_late [15] [.val (.agg #[.slice q.AF q.nF q.cF, .int .i64 s.m.f, .int .i64 s.m.t, .int .i64 s.m.y, .int .i64 s.m.top, .slice q.AZ q.nZ q.cZ]), .val (.slice (some ad) ni ci), .val (.int .i64 (k : Int)), .val (.pointer (some (ad.add (k * 4)))), .val (.pointer (some ⟨(ad.add (k * 4)).block, (ad.add (k * 4)).off + 2, none⟩)), .val (.int .i64 x.wd), .val (.slice (some ad) ni ci), .val (.int .i64 (k : Int)), .val (.pointer (some (ad.add (k * 4)))), .val (.pointer (some ⟨(ad.add (k * 4)).block, (ad.add (k * 4)).off + 3, none⟩)), .val (.int .i64 x.ht), .val (.agg #[.int .i64 x.wd, .int .i64 x.ht]), .some (AddR w 31 q (s.m.add x.z).1 true), .some (AddR w 31 q (s.m.add x.z).1 true), .some (AddM w 31 q (s.m.add x.z).1), .val (.bool true), .some (FreshR w [.slice none 0 0, .int .i64 0, .int .i64 0, .int .i64 0, .int .i64 0, .slice none 0 0] 79)] (by kernel_rfl) (by kernel_rfl) (by kernel_rfl) ?_ ?_ ?_
  · simp only [Hold.fill, Hold.Leave.value]
    refine ⟨?_, ?_, ?_, ?_, ?_, ?_, ?_, ?_, ?_, ?_, ?_, ?_, ?_, ?_, ?_, ?_, ?_, trivial⟩
    · intro gg w' hw hk
      have q0 : w'.cell? ⟨P.m, 0, none⟩ = some (.slice q.AF q.nF q.cF) := ((HC.out w' hw).1.m).at' 0
      have q1 : w'.cell? ⟨P.m, 1, none⟩ = some (.int .i64 s.m.f) := ((HC.out w' hw).1.m).at' 1
      have q2 : w'.cell? ⟨P.m, 2, none⟩ = some (.int .i64 s.m.t) := ((HC.out w' hw).1.m).at' 2
      have q3 : w'.cell? ⟨P.m, 3, none⟩ = some (.int .i64 s.m.y) := ((HC.out w' hw).1.m).at' 3
      have q4 : w'.cell? ⟨P.m, 4, none⟩ = some (.int .i64 s.m.top) := ((HC.out w' hw).1.m).at' 4
      have q5 : w'.cell? ⟨P.m, 5, none⟩ = some (.slice q.AZ q.nZ q.cZ) := ((HC.out w' hw).1.m).at' 5
      go_simp
      exact ⟨rfl, rfl⟩
    · intro gg w' hw hk
      go_simp
      exact ⟨rfl, rfl⟩
    · intro gg w' hw hk
      go_simp
      exact ⟨rfl, rfl⟩
    · intro gg w' hw hk
      go_simp
      exact ⟨rfl, rfl⟩
    · intro gg w' hw hk
      go_simp
      exact ⟨rfl, rfl⟩
    · intro gg w' hw hk
      have q0 : w'.cell? ⟨(ad.add (k * 4)).block, (ad.add (k * 4)).off + 2, none⟩ = some (.int .i64 x.wd) := (HC.out w' hw).2.2.2.1
      go_simp
      exact ⟨rfl, rfl⟩
    · intro gg w' hw hk
      go_simp
      exact ⟨rfl, rfl⟩
    · intro gg w' hw hk
      go_simp
      exact ⟨rfl, rfl⟩
    · intro gg w' hw hk
      go_simp
      exact ⟨rfl, rfl⟩
    · intro gg w' hw hk
      go_simp
      exact ⟨rfl, rfl⟩
    · intro gg w' hw hk
      have q0 : w'.cell? ⟨(ad.add (k * 4)).block, (ad.add (k * 4)).off + 3, none⟩ = some (.int .i64 x.ht) := (HC.out w' hw).2.2.2.2
      go_simp
      exact ⟨rfl, rfl⟩
    · intro gg w' hw hk
      go_simp
      exact ⟨rfl, rfl⟩
    · refine ⟨addR_keeps _ _ _ _ _, fun gg w' hw hk => ?_⟩
      have h := addR_call (W := w) (HRi.out w' hw) HZ.out (by omega) hw.size
      rw [HV.out] at h
      go_simp
      exact Hold.gives_call h
    · refine ⟨addR_keeps _ _ _ _ _, fun gg w' hw hk => ?_⟩
      have h := hk ⟨12, .data⟩ (by simp) rfl _ rfl
      go_simp
      exact ⟨Below.refl _ _, h⟩
    · refine ⟨addM_keeps _ _ _ _, fun gg w' hw hk => ?_⟩
      have h : AddR w 31 q (s.m.add x.z).1 true w' (gg 13) := hk ⟨13, .data⟩ (by simp) rfl _ rfl
      refine addR_cases h ?_
      clear h hk
      intro A3 n3 c3 e h2
      go_simp
      exact ⟨Below.refl _ _, A3, n3, c3, rfl, h2.out.1, h2.out.2⟩
    · intro gg w' hw hk
      have h : AddR w 31 q (s.m.add x.z).1 true w' (gg 13) := hk ⟨13, .data⟩ (by simp) rfl _ rfl
      refine addR_cases h ?_
      clear h hk
      intro A3 n3 c3 e h2
      go_simp
      exact ⟨rfl, rfl⟩
    · refine ⟨freshR_keeps _ _ _ (by simp), fun gg w' hw hk => ?_⟩
      have hsz := hw.size
      go_simp
      exact ⟨ba1 _ _, freshR_new w w' [.slice none 0 0, .int .i64 0, .int .i64 0, .int .i64 0, .int .i64 0, .slice none 0 0] 79 hsz⟩
  · simp only [Hold.fill, Hold.Leave.value]
    intro i hi o v ho hv gg w' hw hk w1
    simp only [List.mem_cons, List.not_mem_nil, or_false] at hi
    subst hi
    obtain rfl := Option.some.inj (show some _ = some o from ho)
    have hv2 : Value.bool true = v := Hold.Leave.val.inj (Option.some.inj (show some (Hold.Leave.val (Value.bool true)) = some (Hold.Leave.val v) from hv))
    subst hv2
    have h : AddR w 31 q (s.m.add x.z).1 true w' (gg 13) := hk ⟨13, .data⟩ (by simp) rfl _ rfl
    refine addR_cases h ?_
    clear h hk
    intro A3 n3 c3 e h2
    go_simp
  intro Q9 hQ9 gg w4 k4 hgg
  simp only [Hold.fill, Hold.Leave.value, List.length_cons, List.length_nil, List.drop_succ_cons, List.drop_zero]
  have h14 := hgg 14 _ rfl
  have h16 := hgg 16 _ rfl
  obtain ⟨A3, n3, c3, e14, r14, f14⟩ := h14
  obtain ⟨b16, e16, z16, g16, t16⟩ := h16
  rw [e14, e16]
  generalize gg 12 = u12
  generalize gg 13 = u13'
  clear hgg e14 e16
  have q0 : w4.cell? ⟨b16, 0, none⟩ = some (.slice none 0 0) := z16.at' 0
  have f0 : w4.frozen? ⟨b16, 0, none⟩ = false := z16.frz 0
  have q1 : w4.cell? ⟨b16, 1, none⟩ = some (.int .i64 0) := z16.at' 1
  have f1 : w4.frozen? ⟨b16, 1, none⟩ = false := z16.frz 1
  have q2 : w4.cell? ⟨b16, 2, none⟩ = some (.int .i64 0) := z16.at' 2
  have f2 : w4.frozen? ⟨b16, 2, none⟩ = false := z16.frz 2
  have q3 : w4.cell? ⟨b16, 3, none⟩ = some (.int .i64 0) := z16.at' 3
  have f3 : w4.frozen? ⟨b16, 3, none⟩ = false := z16.frz 3
  have q4 : w4.cell? ⟨b16, 4, none⟩ = some (.int .i64 0) := z16.at' 4
  have f4 : w4.frozen? ⟨b16, 4, none⟩ = false := z16.frz 4
  have q5 : w4.cell? ⟨b16, 5, none⟩ = some (.slice none 0 0) := z16.at' 5
  have f5 : w4.frozen? ⟨b16, 5, none⟩ = false := z16.frz 5
  have v16 := row_six z16 (.slice q.AF q.nF q.cF) (.int .i64 (s.m.add x.z).1.f) (.int .i64 (s.m.add x.z).1.t) (.int .i64 (s.m.add x.z).1.y) (.int .i64 (s.m.add x.z).1.top) (.slice A3 n3 c3)
  have HV16 := Lib.hid (⟨v16.1, v16.2, r14, f14, g16, t16, k4⟩ : RowAt _ b16 (mrow q.AF q.nF q.cF A3 n3 c3 (s.m.add x.z).1) ∧ Draw.Only b16 w4 _ ∧ RefIn 31 w4 q.AF q.nF q.cF A3 n3 c3 (s.m.add x.z).1 ∧ NewOr w 82 q.AZ w4 A3 ∧ w.heap.size ≤ b16 ∧ (∃ cur fz, w4.heap[b16]? = some (.cells cur 79 fz)) ∧ Below w.heap.size w w4)
  clear v16 z16 r14 f14 g16 t16 k4 HC HRi
  have HQ9 := Lib.hid hQ9
  clear hQ9
  go_wp2_with fail
  refine HQ9.out _ _ ?_
  clear HQ9
  go_upto_region 10 with fail
  clear q0 q1 q2 q3 q4 q5 f0 f1 f2 f3 f4 f5
  generalize (World.setCell (World.setCell (World.setCell (World.setCell (World.setCell (World.setCell w4 ⟨b16, 0, none⟩ (.slice q.AF q.nF q.cF)) ⟨b16, 1, none⟩ (.int .i64 (s.m.add x.z).1.f)) ⟨b16, 2, none⟩ (.int .i64 (s.m.add x.z).1.t)) ⟨b16, 3, none⟩ (.int .i64 (s.m.add x.z).1.y)) ⟨b16, 4, none⟩ (.int .i64 (s.m.add x.z).1.top)) ⟨b16, 5, none⟩ (.slice A3 n3 c3)) = V at *
  have kV : Below w.heap.size w V := HV16.out.2.2.2.2.2.2.trans ((but_only HV16.out.2.1).below HV16.out.2.2.2.2.2.2.size (fun j e => by rw [e]; exact HV16.out.2.2.2.2.1))
  have hfs : (s.m.add x.z).1.fs = s.m.fs := (add_same s.m x.z).1
  have hO := RefIn.other HV16.out.2.2.1 HV16.out.2.2.2.1 HV16.out.2.2.2.2.1 (by decide) HV16.out.2.2.2.2.2.1 HD.out.1.zl (by rw [hfs]; exact HD.out.1.hx.thru kV) HV16.out.2.1
  have DV := HD.out.1.below kV
  have HS := Lib.hid (⟨DV, HD.out.2.trans (kV.mono HD.out.2.size), hO.1, hO.2, HV16.out.1, hfs⟩ : Dat V P q s ∧ Below w0.heap.size w0 V ∧ RefIn 31 V q.AF q.nF q.cF A3 n3 c3 (s.m.add x.z).1 ∧ NewOr w 82 q.AZ V A3 ∧ RowAt V b16 (mrow q.AF q.nF q.cF A3 n3 c3 (s.m.add x.z).1) ∧ (s.m.add x.z).1.fs = s.m.fs)
  clear kV hfs hO DV HV16
  have r0 : V.cell? ⟨b16, 0, none⟩ = some (.slice q.AF q.nF q.cF) := HS.out.2.2.2.2.1.at' 0
  have r1 : V.cell? ⟨b16, 1, none⟩ = some (.int .i64 (s.m.add x.z).1.f) := HS.out.2.2.2.2.1.at' 1
  have r2 : V.cell? ⟨b16, 2, none⟩ = some (.int .i64 (s.m.add x.z).1.t) := HS.out.2.2.2.2.1.at' 2
  have r3 : V.cell? ⟨b16, 3, none⟩ = some (.int .i64 (s.m.add x.z).1.y) := HS.out.2.2.2.2.1.at' 3
  have r4 : V.cell? ⟨b16, 4, none⟩ = some (.int .i64 (s.m.add x.z).1.top) := HS.out.2.2.2.2.1.at' 4
  have r5 : V.cell? ⟨b16, 5, none⟩ = some (.slice A3 n3 c3) := HS.out.2.2.2.2.1.at' 5
  have q0 : V.cell? ⟨P.m, 0, none⟩ = some (.slice q.AF q.nF q.cF) := HS.out.1.m.at' 0
  have f0 : V.frozen? ⟨P.m, 0, none⟩ = false := HS.out.1.m.frz 0
  have q1 : V.cell? ⟨P.m, 1, none⟩ = some (.int .i64 s.m.f) := HS.out.1.m.at' 1
  have f1 : V.frozen? ⟨P.m, 1, none⟩ = false := HS.out.1.m.frz 1
  have q2 : V.cell? ⟨P.m, 2, none⟩ = some (.int .i64 s.m.t) := HS.out.1.m.at' 2
  have f2 : V.frozen? ⟨P.m, 2, none⟩ = false := HS.out.1.m.frz 2
  have q3 : V.cell? ⟨P.m, 3, none⟩ = some (.int .i64 s.m.y) := HS.out.1.m.at' 3
  have f3 : V.frozen? ⟨P.m, 3, none⟩ = false := HS.out.1.m.frz 3
  have q4 : V.cell? ⟨P.m, 4, none⟩ = some (.int .i64 s.m.top) := HS.out.1.m.at' 4
  have f4 : V.frozen? ⟨P.m, 4, none⟩ = false := HS.out.1.m.frz 4
  have q5 : V.cell? ⟨P.m, 5, none⟩ = some (.slice q.AZ q.nZ q.cZ) := HS.out.1.m.at' 5
  have f5 : V.frozen? ⟨P.m, 5, none⟩ = false := HS.out.1.m.frz 5
  have v6 := row_six HS.out.1.m (.slice q.AF q.nF q.cF) (.int .i64 (s.m.add x.z).1.f) (.int .i64 (s.m.add x.z).1.t) (.int .i64 (s.m.add x.z).1.y) (.int .i64 (s.m.add x.z).1.top) (.slice A3 n3 c3)
  have HU := Lib.hid (HS.out.1.added (W := w) (but_only v6.2) v6.1 HS.out.2.2.1 HS.out.2.2.2.2.2 (add_tp HA.out.low (by have := HK.out.2.2.2.1; have := HA.out.hz; omega) HZ.out) HS.out.2.2.2.1 fun i j _ e => HD.out.1.low i j e)
  have kU := (but_only v6.2).below (B := w0.heap.size) HS.out.2.1.size (fun j e => by rw [e, ← HE.out.hB]; exact HD.out.1.b2)
  have HUb := Lib.hid (HS.out.2.1.trans kU)
  clear v6 kU
  go_upto_region 11 with fail
  clear r0 r1 r2 r3 r4 r5 q0 q1 q2 q3 q4 q5 f0 f1 f2 f3 f4 f5
  generalize (World.setCell (World.setCell (World.setCell (World.setCell (World.setCell (World.setCell V ⟨P.m, 0, none⟩ (.slice q.AF q.nF q.cF)) ⟨P.m, 1, none⟩ (.int .i64 (s.m.add x.z).1.f)) ⟨P.m, 2, none⟩ (.int .i64 (s.m.add x.z).1.t)) ⟨P.m, 3, none⟩ (.int .i64 (s.m.add x.z).1.y)) ⟨P.m, 4, none⟩ (.int .i64 (s.m.add x.z).1.top)) ⟨P.m, 5, none⟩ (.slice A3 n3 c3)) = U at *
  go_wp2_with (first
    | (at_builtin; refine wpList_append_E (bytes := 8) (by omega) infoN _ rfl (.tmp 77) (.tmp 79) rfl P.B q.A1 s.row.length q.c1 s.row rfl (HU.out.ro.alloc _) (some ⟨U.heap.size, 0, none⟩) 1 1 [k] rfl (oneE_src encN U k 3) (by have := HA.out.row; have := HK.out.2.2.2.1; omega) (by have := HU.out.hB; simp; omega) ?_; intro A7 c7 w7 hA7; have HR7 := Lib.hid ((HU.out.below (ba1 U _)).onrow k hA7); have HN7 := Lib.hid (Eq.refl A7); clear hA7))
  refine HQ.out _ _ ?_
  rw [show s.onto its k = { s with m := (s.m.add x.z).1, row := s.row ++ [k] } by unfold Ly.onto; rw [HK.out.2.1]]
  exact ⟨{ q with AZ := A3, nZ := n3, cZ := c3, A1 := A7, c1 := c7 }, ⟨⟨rfl, rfl, rfl, rfl, rfl, rfl, rfl, rfl, (by show some (Value.slice A7 (s.row.length + 1) c7) = some (Value.slice A7 (s.row ++ [k]).length c7); rw [List.length_append]; rfl), rfl, rfl⟩, HR7.out.1, (HUb.out.trans ((ba1 U _).mono HUb.out.size)).trans (by have := HR7.out.2; rw [HE.out.hB] at this; exact this)⟩⟩

set_option maxRecDepth 100000 in
set_option maxHeartbeats 800000 in
theorem a_not {w0 : World} {f t : Int} {AI : Option Addr} {ni ci : Nat} {P : RFast} {q : RLoose} {s : Ly} {its : List It} {a : Act} {w : World} {k : Nat} (h : AtS w0 f t AI ni ci P q s k a w) (E : Env w0 AI ni P its) (hA : Able its 140737488355328 k s) (hk : k < its.length) (hsd : (itAt its k).sd = 0) (hv : (s.m.add (itAt its k).z).2 = false) :
    Code.wp Tryz.prog cA (Goes .normal fun a' w' => ∃ q', AtS w0 f t AI ni ci P q' (s) k a' w') a w := by
  have hkk := hk
  have HA := Lib.hid hA
  have HR0 := Lib.hid (h.d.refA hA E.n30)
  refine wp_goes fun Q hQ => ?_
  have HQ := Lib.hid hQ
  clear hQ
  have HD := Lib.hid (⟨h.d, h.b⟩ : Dat w P q s ∧ Below w0.heap.size w0 w)
  refine h.fr.open (C := fun a => Code.wp Tryz.prog cA Q a w) ?_
  clear h
  intros
  conv => arg 2; whnf
  obtain ⟨x, hx⟩ : ∃ x, itAt its k = x := ⟨_, rfl⟩
  obtain ⟨ad, rfl, hadb, d0, d1, d2, d3⟩ := E.item hk HD.out.2
  rw [hx] at d0 d1 d2 d3
  have HAd := Lib.hid (⟨hadb, d0, d1, d2, d3⟩ : ad.block < w.heap.size ∧ AtI w (ad.add (k * 4)) x)
  have HK := Lib.hid (⟨hk, hx, E.right hk hx, E.n30, E.hn⟩ : k < its.length ∧ itAt its k = x ∧ RightI x ∧ its.length ≤ 30 ∧ ni = its.length)
  have HE := Lib.hid E
  have hki : (k : Int) < (ni : Int) := by have := E.hn; omega
  have hk0 : ¬ (k : Int) < 0 := by omega
  have hwk : IntKind.i64.wrap ((k : Int) + 1) = (k : Int) + 1 := IntWalk.i64_in _ (by have := E.hn; have := E.n30; omega)
  clear hadb hk hx E
  have hb0 : (x.sd == 0) = true := by rw [← HK.out.2.1, hsd]; rfl
  have hb1 : (x.sd != 0) = false := by rw [← HK.out.2.1, hsd]; rfl
  have HSd := Lib.hid (HK.out.2.1 ▸ hsd : x.sd = 0)
  clear hsd
  have HV := Lib.hid (show (s.m.add x.z).2 = false by rw [← HK.out.2.1]; exact hv)
  clear hv hA hkk
  go_upto_region 8 with fail
  clear d0 d1 d2 d3
  have HC := Lib.hid (fun w' (i : Below w.heap.size w w') => show Dat w' P q s ∧ AtI w' (ad.add (k * 4)) x from ⟨HD.out.1.below i, HAd.out.2.below (by rw [block_of_add]; exact HAd.out.1) i⟩)
  have HRi := Lib.hid (fun w' (i : Below w.heap.size w w') => HR0.out.thru i)
  have HZ := Lib.hid (HK.out.2.2.1.size HSd.out)
  refine HoldLate.wp_region_hold_late [15] [.val (.agg #[.slice q.AF q.nF q.cF, .int .i64 s.m.f, .int .i64 s.m.t, .int .i64 s.m.y, .int .i64 s.m.top, .slice q.AZ q.nZ q.cZ]), .val (.slice (some ad) ni ci), .val (.int .i64 (k : Int)), .val (.pointer (some (ad.add (k * 4)))), .val (.pointer (some ⟨(ad.add (k * 4)).block, (ad.add (k * 4)).off + 2, none⟩)), .val (.int .i64 x.wd), .val (.slice (some ad) ni ci), .val (.int .i64 (k : Int)), .val (.pointer (some (ad.add (k * 4)))), .val (.pointer (some ⟨(ad.add (k * 4)).block, (ad.add (k * 4)).off + 3, none⟩)), .val (.int .i64 x.ht), .val (.agg #[.int .i64 x.wd, .int .i64 x.ht]), .some (AddR w 31 q (s.m.add x.z).1 false), .some (AddR w 31 q (s.m.add x.z).1 false), .some (AddM w 31 q (s.m.add x.z).1), .val (.bool false), .some (FreshR w [.slice none 0 0, .int .i64 0, .int .i64 0, .int .i64 0, .int .i64 0, .slice none 0 0] 79)] (by kernel_rfl) (by kernel_rfl) (by kernel_rfl) ?_ ?_ ?_
  · simp only [Hold.fill, Hold.Leave.value]
    refine ⟨?_, ?_, ?_, ?_, ?_, ?_, ?_, ?_, ?_, ?_, ?_, ?_, ?_, ?_, ?_, ?_, ?_, trivial⟩
    · intro gg w' hw hk
      have q0 : w'.cell? ⟨P.m, 0, none⟩ = some (.slice q.AF q.nF q.cF) := ((HC.out w' hw).1.m).at' 0
      have q1 : w'.cell? ⟨P.m, 1, none⟩ = some (.int .i64 s.m.f) := ((HC.out w' hw).1.m).at' 1
      have q2 : w'.cell? ⟨P.m, 2, none⟩ = some (.int .i64 s.m.t) := ((HC.out w' hw).1.m).at' 2
      have q3 : w'.cell? ⟨P.m, 3, none⟩ = some (.int .i64 s.m.y) := ((HC.out w' hw).1.m).at' 3
      have q4 : w'.cell? ⟨P.m, 4, none⟩ = some (.int .i64 s.m.top) := ((HC.out w' hw).1.m).at' 4
      have q5 : w'.cell? ⟨P.m, 5, none⟩ = some (.slice q.AZ q.nZ q.cZ) := ((HC.out w' hw).1.m).at' 5
      go_simp
      exact ⟨rfl, rfl⟩
    · intro gg w' hw hk
      go_simp
      exact ⟨rfl, rfl⟩
    · intro gg w' hw hk
      go_simp
      exact ⟨rfl, rfl⟩
    · intro gg w' hw hk
      go_simp
      exact ⟨rfl, rfl⟩
    · intro gg w' hw hk
      go_simp
      exact ⟨rfl, rfl⟩
    · intro gg w' hw hk
      have q0 : w'.cell? ⟨(ad.add (k * 4)).block, (ad.add (k * 4)).off + 2, none⟩ = some (.int .i64 x.wd) := (HC.out w' hw).2.2.2.1
      go_simp
      exact ⟨rfl, rfl⟩
    · intro gg w' hw hk
      go_simp
      exact ⟨rfl, rfl⟩
    · intro gg w' hw hk
      go_simp
      exact ⟨rfl, rfl⟩
    · intro gg w' hw hk
      go_simp
      exact ⟨rfl, rfl⟩
    · intro gg w' hw hk
      go_simp
      exact ⟨rfl, rfl⟩
    · intro gg w' hw hk
      have q0 : w'.cell? ⟨(ad.add (k * 4)).block, (ad.add (k * 4)).off + 3, none⟩ = some (.int .i64 x.ht) := (HC.out w' hw).2.2.2.2
      go_simp
      exact ⟨rfl, rfl⟩
    · intro gg w' hw hk
      go_simp
      exact ⟨rfl, rfl⟩
    · refine ⟨addR_keeps _ _ _ _ _, fun gg w' hw hk => ?_⟩
      have h := addR_call (W := w) (HRi.out w' hw) HZ.out (by omega) hw.size
      rw [HV.out] at h
      go_simp
      exact Hold.gives_call h
    · refine ⟨addR_keeps _ _ _ _ _, fun gg w' hw hk => ?_⟩
      have h := hk ⟨12, .data⟩ (by simp) rfl _ rfl
      go_simp
      exact ⟨Below.refl _ _, h⟩
    · refine ⟨addM_keeps _ _ _ _, fun gg w' hw hk => ?_⟩
      have h : AddR w 31 q (s.m.add x.z).1 false w' (gg 13) := hk ⟨13, .data⟩ (by simp) rfl _ rfl
      refine addR_cases h ?_
      clear h hk
      intro A3 n3 c3 e h2
      go_simp
      exact ⟨Below.refl _ _, A3, n3, c3, rfl, h2.out.1, h2.out.2⟩
    · intro gg w' hw hk
      have h : AddR w 31 q (s.m.add x.z).1 false w' (gg 13) := hk ⟨13, .data⟩ (by simp) rfl _ rfl
      refine addR_cases h ?_
      clear h hk
      intro A3 n3 c3 e h2
      go_simp
      exact ⟨rfl, rfl⟩
    · refine ⟨freshR_keeps _ _ _ (by simp), fun gg w' hw hk => ?_⟩
      have hsz := hw.size
      go_simp
      exact ⟨ba1 _ _, freshR_new w w' [.slice none 0 0, .int .i64 0, .int .i64 0, .int .i64 0, .int .i64 0, .slice none 0 0] 79 hsz⟩
  · simp only [Hold.fill, Hold.Leave.value]
    intro i hi o v ho hv gg w' hw hk w1
    simp only [List.mem_cons, List.not_mem_nil, or_false] at hi
    subst hi
    obtain rfl := Option.some.inj (show some _ = some o from ho)
    have hv2 : Value.bool false = v := Hold.Leave.val.inj (Option.some.inj (show some (Hold.Leave.val (Value.bool false)) = some (Hold.Leave.val v) from hv))
    subst hv2
    have h : AddR w 31 q (s.m.add x.z).1 false w' (gg 13) := hk ⟨13, .data⟩ (by simp) rfl _ rfl
    refine addR_cases h ?_
    clear h hk
    intro A3 n3 c3 e h2
    go_simp
  intro Q9 hQ9 gg w4 k4 hgg
  simp only [Hold.fill, Hold.Leave.value, List.length_cons, List.length_nil, List.drop_succ_cons, List.drop_zero]
  have h14 := hgg 14 _ rfl
  have h16 := hgg 16 _ rfl
  obtain ⟨A3, n3, c3, e14, r14, f14⟩ := h14
  obtain ⟨b16, e16, z16, g16, t16⟩ := h16
  rw [e14, e16]
  generalize gg 12 = u12
  generalize gg 13 = u13'
  clear hgg e14 e16
  have q0 : w4.cell? ⟨b16, 0, none⟩ = some (.slice none 0 0) := z16.at' 0
  have f0 : w4.frozen? ⟨b16, 0, none⟩ = false := z16.frz 0
  have q1 : w4.cell? ⟨b16, 1, none⟩ = some (.int .i64 0) := z16.at' 1
  have f1 : w4.frozen? ⟨b16, 1, none⟩ = false := z16.frz 1
  have q2 : w4.cell? ⟨b16, 2, none⟩ = some (.int .i64 0) := z16.at' 2
  have f2 : w4.frozen? ⟨b16, 2, none⟩ = false := z16.frz 2
  have q3 : w4.cell? ⟨b16, 3, none⟩ = some (.int .i64 0) := z16.at' 3
  have f3 : w4.frozen? ⟨b16, 3, none⟩ = false := z16.frz 3
  have q4 : w4.cell? ⟨b16, 4, none⟩ = some (.int .i64 0) := z16.at' 4
  have f4 : w4.frozen? ⟨b16, 4, none⟩ = false := z16.frz 4
  have q5 : w4.cell? ⟨b16, 5, none⟩ = some (.slice none 0 0) := z16.at' 5
  have f5 : w4.frozen? ⟨b16, 5, none⟩ = false := z16.frz 5
  have v16 := row_six z16 (.slice q.AF q.nF q.cF) (.int .i64 (s.m.add x.z).1.f) (.int .i64 (s.m.add x.z).1.t) (.int .i64 (s.m.add x.z).1.y) (.int .i64 (s.m.add x.z).1.top) (.slice A3 n3 c3)
  have HV16 := Lib.hid (⟨v16.1, v16.2, r14, f14, g16, t16, k4⟩ : RowAt _ b16 (mrow q.AF q.nF q.cF A3 n3 c3 (s.m.add x.z).1) ∧ Draw.Only b16 w4 _ ∧ RefIn 31 w4 q.AF q.nF q.cF A3 n3 c3 (s.m.add x.z).1 ∧ NewOr w 82 q.AZ w4 A3 ∧ w.heap.size ≤ b16 ∧ (∃ cur fz, w4.heap[b16]? = some (.cells cur 79 fz)) ∧ Below w.heap.size w w4)
  clear v16 z16 r14 f14 g16 t16 k4 HC HRi
  have HQ9 := Lib.hid hQ9
  clear hQ9
  go_wp2_with fail
  refine HQ9.out _ _ ?_
  clear HQ9
  go_wp2_with fail
  clear q0 q1 q2 q3 q4 q5 f0 f1 f2 f3 f4 f5
  generalize (World.setCell (World.setCell (World.setCell (World.setCell (World.setCell (World.setCell w4 ⟨b16, 0, none⟩ (.slice q.AF q.nF q.cF)) ⟨b16, 1, none⟩ (.int .i64 (s.m.add x.z).1.f)) ⟨b16, 2, none⟩ (.int .i64 (s.m.add x.z).1.t)) ⟨b16, 3, none⟩ (.int .i64 (s.m.add x.z).1.y)) ⟨b16, 4, none⟩ (.int .i64 (s.m.add x.z).1.top)) ⟨b16, 5, none⟩ (.slice A3 n3 c3)) = V at *
  have kV : Below w.heap.size w V := HV16.out.2.2.2.2.2.2.trans ((but_only HV16.out.2.1).below HV16.out.2.2.2.2.2.2.size (fun j e => by rw [e]; exact HV16.out.2.2.2.2.1))
  exact HQ.out _ _ ⟨q, ⟨⟨rfl, rfl, rfl, rfl, rfl, rfl, rfl, rfl, rfl, rfl, rfl⟩, HD.out.1.below kV, HD.out.2.trans (kV.mono HD.out.2.size)⟩⟩

end Go.Proofs.YtdibdfalahjmbaaGreat.Text
